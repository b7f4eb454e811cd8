/-
  What cmap's segment.walk answers.
-/
import Derived.Test.YtkmmphpaaahajaaC11Sg
namespace Go.Proofs.Ytkmmphpaaahajaa
open Go.RowKit Go.Deep
set_option linter.unusedVariables false
set_option linter.unusedSimpArgs false

def gstep (n : Nat) (cs : List Ch) (c : Int) : Option Nat → Option (List Ch)
  | none => none
  | some g => if g < n then addC cs c (g : Int) else none
def stG (l : List UInt8) (a d o p n : Nat) (cs : List Ch) (c : Nat) : Option (List Ch) :=
  if c = 65535 ∨ isP (c : Int) = false then some cs else
  gstep n cs (c : Int) (glW l a d o p c)
def segG (l : List UInt8) (a d o p n : Nat) (cs : List Ch) : Nat → Option (List Ch)
  | 0 => some cs
  | j + 1 => (segG l a d o p n cs j).bind fun x => stG l a d o p n x (a + j)
theorem segF_eq (s : List UInt8) (m n i : Nat) (cs : List Ch) : ∀ j, segF s m n i cs j = segG s (sa s m i) (sdl s m i) (sof s m i) (spl m i) n cs j
  | 0 => rfl
  | j + 1 => by
    rw [segF, segG, segF_eq s m n i cs j]
    congr 1
theorem segG_none {l : List UInt8} {a d o p n : Nat} {cs : List Ch} {j : Nat} (h : segG l a d o p n cs j = none) : ∀ e, segG l a d o p n cs (j + e) = none
  | 0 => h
  | e + 1 => by rw [← Nat.add_assoc, segG, segG_none h e]; rfl
theorem segG_end {l : List UInt8} {a d o p n : Nat} {cs : List Ch} {j k : Nat} (h : segG l a d o p n cs j = none) (hk : j ≤ k) : segG l a d o p n cs k = none := by
  have := segG_none h (k - j)
  rwa [show j + (k - j) = k by omega] at this
set_option maxRecDepth 8000 in
set_option maxHeartbeats 4000000 in
theorem sw_any (L : Nat) (s : ByteArray) (a b d o p n : Nat) (cur : List Ch) (w : World) (hs : s.size ≤ 1073741824) (hd : d ≤ 65535) (ho : o ≤ 65535) (hp : p ≤ 1073741824) (hb : b ≤ 65535) (hab : a ≤ b) (hn : n ≤ 4096) (hS : TkS w L cur) (hBD : BD cur) :
    Calls Try.prog 54 #[.agg #[.int .i64 (a : Int), .int .i64 (b : Int), .int .i64 (d : Int), .int .i64 (o : Int), .int .i64 (p : Int)], .string s, .int .i64 (n : Int), .func (.func 19) #[] #[.pointer (some ⟨L, 0, none⟩)]] w (TkR w L (segG s.data.toList a d o p n cur (b - a + 1))) := by
  have hLw := hS.lt
  have CP := hide isPt_any
  have CG := hide (fun (c : Nat) (w : World) (h1 : c ≤ 65535) (h2 : a ≤ c) => gly_any s a b d o p c w hs hd ho hp h1 h2)
  have hal : Below w.heap.size w (w.alloc (.cells #[.int .i64 (a : Int), .int .i64 (b : Int), .int .i64 (d : Int), .int .i64 (o : Int), .int .i64 (p : Int)] 76)) := (Below.refl _ _).alloc (Nat.le_refl _) _
  have HS0 := hide (hS.below hal)
  have HT0 := hide (TF.of_below hal (Nat.le_of_lt hLw))
  have HB0 := hide (Blk.new w #[.int .i64 (a : Int), .int .i64 (b : Int), .int .i64 (d : Int), .int .i64 (o : Int), .int .i64 (p : Int)] 76)
  have HBD := hide hBD
  have HAB := hide (And.intro hab hb)
  have hn' : (n : Int) ≤ 4096 := by omega
  have a0 : (0 : Int) ≤ (a : Int) := by omega
  have ab' : (a : Int) ≤ (b : Int) := by omega
  have b1 : (b : Int) ≤ 65535 := by omega
  obtain ⟨cnt, hcnt⟩ : ∃ cnt : Nat, cnt = b - a + 1 := ⟨_, rfl⟩
  have HCN := hide hcnt
  rw [← hcnt]
  obtain ⟨RR, hRR⟩ : ∃ RR, segG s.data.toList a d o p n cur cnt = RR := ⟨_, rfl⟩
  rw [hRR]
  have HRR := hide hRR
  clear hRR hcnt hal hS hBD hab hb hs hd ho hp hn
  go_enter Try.func54, Try.ntmps54
  go_wp2_with fail
  go_loopw [19] (fun vi wr => ∃ (j : Nat) (cu : List Ch), vi = .int .i64 j ∧ Hid (j ≤ cnt ∧ segG s.data.toList a d o p n cur j = some cu ∧ BD cu ∧ TkS wr L cu ∧ TF L w wr ∧ Blk wr w.heap.size #[.int .i64 (a : Int), .int .i64 (b : Int), .int .i64 (d : Int), .int .i64 (o : Int), .int .i64 (p : Int)] 76)) (fun vi _ => cnt - (intOf vi).toNat)
  case atStart => exact ⟨0, cur, rfl, hide ⟨by omega, rfl, HBD.out, HS0.out, HT0.out, HB0.out⟩⟩
  case round =>
    obtain ⟨j, cu, rfl, HV⟩ := hrel
    obtain ⟨hj, hgr, hbd, htk, htf, hblk⟩ := HV.out
    have hj0 : (0 : Int) ≤ (j : Int) := by omega
    have HGR := hide hgr
    have HBD2 := hide hbd
    have HTK := hide htk
    have HTF := hide htf
    have HBK := hide hblk
    clear HV hgr hbd htk htf HS0 HT0 HB0
    by_cases hlt : j < cnt
    case neg =>
      have hlt' : ¬ (j : Int) < (b : Int) - (a : Int) + 1 := by have := HCN.out; have := HAB.out; omega
      have EJ : Hid (RR = some cu) := hide (by
        rw [← HRR.out, ← HGR.out]
        obtain rfl : j = cnt := by omega
        rfl)
      clear hblk
      go_wp2_with fail
      go_ret
      rw [EJ.out]
      exact ⟨rfl, HTK.out, HTF.out⟩
    have hlt' : (j : Int) < (b : Int) - (a : Int) + 1 := by have := HCN.out; have := HAB.out; omega
    have z0 : wr.cell? ⟨w.heap.size, 0, none⟩ = some (.int .i64 (a : Int)) := hblk.cell 0
    have z1 : wr.cell? ⟨w.heap.size, 1, none⟩ = some (.int .i64 (b : Int)) := hblk.cell 1
    have z2 : wr.cell? ⟨w.heap.size, 2, none⟩ = some (.int .i64 (d : Int)) := hblk.cell 2
    have z3 : wr.cell? ⟨w.heap.size, 3, none⟩ = some (.int .i64 (o : Int)) := hblk.cell 3
    have z4 : wr.cell? ⟨w.heap.size, 4, none⟩ = some (.int .i64 (p : Int)) := hblk.cell 4
    have zl : w.heap.size < wr.heap.size := hblk.lt
    obtain ⟨c, hc⟩ : ∃ c : Int, (a : Int) + (j : Int) = c := ⟨_, rfl⟩
    have q0 : 0 ≤ c := by omega
    have q1 : c ≤ 65535 := by omega
    have HC : Hid (((a + j : Nat) : Int) = c) := hide (by omega)
    have CG1 := hide (fun w => CG.out (a + j) w (by have := HC.out; omega) (by omega))
    have EST : Hid (segG s.data.toList a d o p n cur (j + 1) = stG s.data.toList a d o p n cu (a + j)) := hide (by rw [segG, HGR.out]; rfl)
    have EST0 : Hid (stG s.data.toList a d o p n cu (a + j) = if c = 65535 ∨ isP c = false then some cu else gstep n cu c (glW s.data.toList a d o p (a + j))) := hide (by
      unfold stG
      rw [HC.out]
      have e : (a + j = 65535 ∨ isP c = false) ↔ (c = 65535 ∨ isP c = false) := by
        have := HC.out
        constructor
        · rintro (h | h)
          · exact Or.inl (by omega)
          · exact Or.inr h
        · rintro (h | h)
          · exact Or.inl (by omega)
          · exact Or.inr h
      by_cases hh : c = 65535 ∨ isP c = false
      · rw [if_pos (e.2 hh), if_pos hh]
      · rw [if_neg (fun x => hh (e.1 x)), if_neg hh])
    have hcc := HC.out
    rw [hcc] at CG1
    generalize glW s.data.toList a d o p (a + j) = GW at *
    have ENO : Hid (segG s.data.toList a d o p n cur (j + 1) = none → RR = none) := hide (fun h => by rw [← HRR.out]; exact segG_end h (by omega))
    clear hblk hcc
    by_cases c1 : c = 65535
    · have E : Hid (segG s.data.toList a d o p n cur (j + 1) = some cu) := hide (by rw [EST.out, EST0.out, if_pos (Or.inl c1)])
      have c1' : (c == 65535) = true := by simpa using c1
      clear EST EST0 ENO c1
      go_wp2_with fail
      go_roundw
      case rel => exact ⟨j + 1, cu, by go_num, hide ⟨by omega, E.out, HBD2.out, HTK.out, HTF.out, HBK.out⟩⟩
      case measure => simp [intOf]; omega
    have c1' : (c == 65535) = false := by simpa using c1
    have CP1 := hide (CP.out c)
    cases hpt : isP c
    · have E : Hid (segG s.data.toList a d o p n cur (j + 1) = some cu) := hide (by rw [EST.out, EST0.out, if_pos (Or.inr hpt)])
      rw [hpt] at CP1
      clear EST EST0 ENO c1 hpt
      go_wp2_with fail
      refine (CP1.out _).mono ?_
      rintro e w1 ⟨rfl, hw⟩
      subst hw
      go_wp2_with fail
      go_roundw
      case rel => exact ⟨j + 1, cu, by go_num, hide ⟨by omega, E.out, HBD2.out, HTK.out, HTF.out, HBK.out⟩⟩
      case measure => simp [intOf]; omega
    have E1 : Hid (segG s.data.toList a d o p n cur (j + 1) = gstep n cu c GW) := hide (by
      rw [EST.out, EST0.out, if_neg]
      rintro (h | h)
      · exact c1 h
      · rw [hpt] at h; cases h)
    rw [hpt] at CP1
    clear EST EST0 c1 hpt
    go_wp2_with fail
    refine (CP1.out _).mono ?_
    rintro e w1 ⟨rfl, hw⟩
    subst hw
    cases GW with
    | none =>
      have EN := hide (ENO.out E1.out)
      clear ENO E1
      go_wp2_with fail
      refine (CG1.out _).mono ?_
      rintro e w1 ⟨rfl, h1⟩
      have HT1 := hide (HTF.out.trans (TF.of_below h1 (Nat.le_of_lt HTK.out.lt)))
      clear h1
      go_wp2_with fail
      go_ret
      rw [EN.out]
      exact ⟨rfl, HT1.out⟩
    | some g =>
      by_cases hg : g < n
      case neg =>
        have EN := hide (ENO.out (by rw [E1.out]; exact if_neg hg))
        have hg' : (n : Int) ≤ (g : Int) := by omega
        clear ENO E1
        go_wp2_with fail
        refine (CG1.out _).mono ?_
        rintro e w1 ⟨rfl, h1⟩
        have HT1 := hide (HTF.out.trans (TF.of_below h1 (Nat.le_of_lt HTK.out.lt)))
        clear h1
        go_wp2_with fail
        go_ret
        rw [EN.out]
        exact ⟨rfl, HT1.out⟩
      have hg' : ¬ (n : Int) ≤ (g : Int) := by omega
      have gr0 : (0 : Int) ≤ (g : Int) := by omega
      have gr1 : (g : Int) ≤ 4294967296 := by omega
      have E2 : Hid (segG s.data.toList a d o p n cur (j + 1) = addC cu c (g : Int)) := hide (by rw [E1.out]; exact if_pos hg)
      have CT := hide (fun (w : World) (h : TkS w L cu) => take_any L c (g : Int) cu w h HBD2.out gr0 gr1 q0 (by omega))
      have HADD := hide (fun cs2 h => HBD2.out.add (cs' := cs2) q0 (by omega) gr0 gr1 h)
      clear E1 gr1
      generalize addC cu c (g : Int) = AD at *
      cases AD with
      | none =>
        have EN := hide (ENO.out E2.out)
        clear ENO E2
        go_wp2_with fail
        refine (CG1.out _).mono ?_
        rintro e w1 ⟨rfl, h1⟩
        have HK1 := hide (HTK.out.below h1)
        have HT1 := hide (HTF.out.trans (TF.of_below h1 (Nat.le_of_lt HTK.out.lt)))
        clear h1
        go_wp2_with fail
        refine (CT.out _ HK1.out).mono ?_
        rintro e w2 ⟨rfl, h2⟩
        have HT2 := hide (HT1.out.trans h2)
        clear h2
        go_wp2_with fail
        go_ret
        rw [EN.out]
        exact ⟨rfl, HT2.out⟩
      | some cs2 =>
        have HBD3 := hide (HADD.out cs2 rfl)
        clear ENO HADD
        go_wp2_with fail
        refine (CG1.out _).mono ?_
        rintro e w1 ⟨rfl, h1⟩
        have HK1 := hide (HTK.out.below h1)
        have HT1 := hide (HTF.out.trans (TF.of_below h1 (Nat.le_of_lt HTK.out.lt)))
        have HBK1 := hide (HBK.out.below h1)
        clear h1
        go_wp2_with fail
        refine (CT.out _ HK1.out).mono ?_
        rintro e w2 ⟨rfl, hk2, h2⟩
        have HK2 := hide hk2
        have HT2 := hide (HT1.out.trans h2)
        have HBK2 := hide (h2.blk HBK1.out (by omega) (by decide))
        clear h2 hk2
        go_wp2_with fail
        go_roundw
        case rel => exact ⟨j + 1, cs2, by go_num, hide ⟨by omega, E2.out, HBD3.out, HK2.out, HT2.out, HBK2.out⟩⟩
        case measure => simp [intOf]; omega
end Go.Proofs.Ytkmmphpaaahajaa
