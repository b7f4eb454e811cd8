/-
  What the reference's Share answers of at most 4096 parts.
-/
import Derived.Test.YtnabfcpapjmgfaaShare
import Derived.Test.YtnabfcpapjmgfaaRSums
import Derived.Test.YtnabfcpapjmgfaaRScale
import Derived.Deep.AppendLies
namespace Go.Proofs.Ytnabfcpapjmgfaa
open Go.RowKit

/- the first k shares -/
def shPre (t : Int) (zs : List Int) (k : Nat) : List Int := (List.range k).map (shF t zs)
theorem shPre_succ (t : Int) (zs : List Int) (k : Nat) : shPre t zs (k + 1) = shPre t zs k ++ [shF t zs k] := by
  unfold shPre
  rw [List.range_succ, List.map_append]
  rfl
theorem shPre_len (t : Int) (zs : List Int) (k : Nat) : (shPre t zs k).length = k := by simp [shPre]

theorem sums_bd (zs : List Int) (h4 : zs.length ≤ 4096) (h : allIn zs = true) (k : Nat) : -4503599627370496 ≤ total (zs.take k) ∧ total (zs.take k) ≤ 4503599627370496 := by
  have ha : allIn (zs.take k) = true := by
    have : ∀ (n : Nat) (l : List Int), allIn l = true → allIn (l.take n) = true := by
      intro n l hl'
      induction l generalizing n with
      | nil => simp [allIn]
      | cons x xs ih =>
        cases n with
        | zero => simp [allIn]
        | succ n =>
          simp only [List.take_succ_cons, allIn, Bool.and_eq_true] at hl' ⊢
          exact ⟨hl'.1, ih n hl'.2⟩
    exact this k zs h
  have h1 := total_bd _ ha
  have h2 : (zs.take k).length ≤ 4096 := by rw [List.length_take]; omega
  omega

set_option maxHeartbeats 1000000 in
theorem rshare_bad (t : Int) (a : Option Addr) (len cap : Nat) (zs : List Int) (w : World) (hl : zs.length = len) (h4 : len ≤ 4096) (hL : Lst w a zs) (hok : shOK t zs = false) :
    Calls Try.prog 27 #[.int .i64 t, .slice a len cap] w fun e w' => e = .returned (.tuple #[.slice none 0 0, .bool false]) ∧ w' = w := by
  have CS := hide (fun w h => rsum_any a len cap zs w hl h4 h)
  have HL := hide hL
  have way : smB zs = false ∨ (smB zs = true ∧ (smV zs == 0) = true) ∨ (smB zs = true ∧ (smV zs == 0) = false ∧ inB t = false) ∨ (smB zs = true ∧ (smV zs == 0) = false ∧ inB t = true ∧ negB zs = true) := by
    unfold shOK at hok
    cases h1 : smB zs
    · exact Or.inl rfl
    · have hv : smV zs = total zs := by
        unfold smB at h1
        simp only [Bool.and_eq_true] at h1
        unfold smV
        rw [h1.1, if_pos rfl, tolV_t h1.2]
      rw [h1] at hok
      rw [hv]
      cases h2 : (total zs == 0)
      · cases h3 : inB t
        · exact Or.inr (Or.inr (Or.inl ⟨rfl, rfl, rfl⟩))
        · rw [h2, h3] at hok
          exact Or.inr (Or.inr (Or.inr ⟨rfl, rfl, rfl, by simpa using hok⟩))
      · exact Or.inr (Or.inl ⟨rfl, rfl⟩)
  have HN := hide (negB_none zs)
  have Hl := hide hl
  have h5 : (len : Int) ≤ 4096 := by omega
  clear hok hL hl h4
  generalize smV zs = V at *
  generalize smB zs = B at *
  rcases way with h1 | ⟨h1, h2⟩ | ⟨h1, h2, h3⟩ | ⟨h1, h2, h3, h6⟩
  · subst h1
    go_enter Try.func27, Try.ntmps27
    go_wp2_with (go_at_call 24; refine (CS.out _ HL.out).mono ?_; rintro e w' ⟨rfl, rfl⟩)
    go_ret2
    exact ⟨rfl, rfl⟩
  · subst h1
    go_enter Try.func27, Try.ntmps27
    go_wp2_with (go_at_call 24; refine (CS.out _ HL.out).mono ?_; rintro e w' ⟨rfl, rfl⟩)
    go_ret2
    exact ⟨rfl, rfl⟩
  · subst h1
    go_enter Try.func27, Try.ntmps27
    go_wp2_with (first | (go_at_call 24; refine (CS.out _ HL.out).mono ?_; rintro e w' ⟨rfl, rfl⟩) | (go_at_call 14; refine (rin_any _ _).mono ?_; rintro e w' ⟨rfl, rfl⟩))
    go_ret2
    exact ⟨rfl, rfl⟩
  · subst h1
    have H6 := hide h6
    clear h6
    go_enter Try.func27, Try.ntmps27
    go_wp2_with (first | (go_at_call 24; refine (CS.out _ HL.out).mono ?_; rintro e w' ⟨rfl, rfl⟩) | (go_at_call 14; refine (rin_any _ _).mono ?_; rintro e w' ⟨rfl, rfl⟩))
    go_loop [8] (fun vi => ∃ (k : Nat), vi = .int .i64 k ∧ Hid (k ≤ len ∧ ∀ i, i < k → 0 ≤ zs.getD i 0)) (fun vi => len - (intOf vi).toNat)
    case atStart => exact ⟨0, rfl, hide ⟨by omega, fun i hi => absurd hi (by omega)⟩⟩
    case round =>
      obtain ⟨k, rfl, HR⟩ := hrel
      by_cases hlt : k < len
      · have hlt' : (k : Int) < (len : Int) := by omega
        have hl := Hl.out
        rcases HL.out with hz | ⟨b, off, rfl, hb, hcell⟩
        · rw [hz] at hl; simp at hl; omega
        have hc := hcell k (by omega)
        generalize hzk : zs.getD k 0 = z at *
        have HZ := hide hzk
        clear hcell hl hzk
        by_cases hz : z < 0
        · go_wp2
          go_ret2
          exact ⟨rfl, rfl⟩
        · go_wp2
          go_round
          case rel =>
            refine ⟨k + 1, by go_num, hide ⟨by omega, fun i hi => ?_⟩⟩
            by_cases hik : i = k
            · rw [hik, HZ.out]; omega
            · exact HR.out.2 i (by omega)
          case measure => simp [intOf]; omega
      · exfalso
        have := HN.out (fun i hi => HR.out.2 i (by have := Hl.out; omega))
        rw [H6.out] at this
        exact absurd this (by simp)

set_option maxHeartbeats 2000000 in
theorem rshare_good (t : Int) (a : Option Addr) (len cap : Nat) (zs : List Int) (w : World) (t1 : -9223372036854775808 ≤ t) (t2 : t ≤ 9223372036854775807) (hl : zs.length = len) (h4 : len ≤ 4096) (hL : Lst w a zs) (hok : shOK t zs = true) :
    Calls Try.prog 27 #[.int .i64 t, .slice a len cap] w fun e w' => ∃ g c, e = .returned (.tuple #[.slice (some ⟨g, 0, none⟩) len c, .bool true]) ∧ Below w.heap.size w w' ∧ Own w' w.heap.size g len c (shL t zs) := by
  have CS := hide (fun w h => rsum_any a len cap zs w hl h4 h)
  have HL := hide hL
  unfold shOK at hok
  simp only [Bool.and_eq_true, Bool.not_eq_true'] at hok
  obtain ⟨⟨⟨o1, o2⟩, o3⟩, o4⟩ := hok
  have o5 := o1
  unfold smB at o5
  simp only [Bool.and_eq_true] at o5
  have hv : smV zs = total zs := by unfold smV; rw [o5.1, if_pos rfl, tolV_t o5.2]
  have bT := inB_bd o5.2
  have HW := hide (sums_bd zs (by omega) o5.1)
  rw [hv, o1] at CS
  have hpos : 0 < len := by
    rcases Nat.eq_zero_or_pos len with h | h
    · have : zs = [] := List.eq_nil_of_length_eq_zero (by omega)
      rw [this] at o2
      simp [total] at o2
    · exact h
  have HG := hide (show ∀ k, k < zs.length → ¬ zs.getD k 0 < 0 by
    intro k hk hz
    rw [negB_at zs k hk hz] at o4
    exact absurd o4 (by simp))
  have HT := hide (show ∀ k x, total (zs.take k) = x → cumF t zs k = flV t x (total zs) by intro k x hx; unfold cumF; rw [hx])
  have HF := hide (show ∀ i, cumF t zs (i + 1) - cumF t zs i = shF t zs i from fun i => rfl)
  have HS := hide (shPre_succ t zs)
  have HE := hide (show shPre t zs len = shL t zs by rw [← hl]; rfl)
  have HC := hide (cum_zero t zs)
  have Hl := hide hl
  have h5 : (len : Int) ≤ 4096 := by omega
  clear o1 o4 o5 hv hL hl
  generalize hTT : total zs = T at *
  obtain ⟨i0, hi, hz0, hz1, hz2⟩ := info_parts info_int
  have HI := hide hi
  have HI0 := hide hz0
  have HI1 := hide hz1
  have HI2 := hide hz2
  clear hTT hi hz0 hz1 hz2
  go_enter Try.func27, Try.ntmps27
  go_wp2_with (first | (go_at_call 24; refine (CS.out _ HL.out).mono ?_; rintro e w' ⟨rfl, rfl⟩) | (go_at_call 14; refine (rin_any _ _).mono ?_; rintro e w' ⟨rfl, rfl⟩))
  go_loop [8] (fun vi => ∃ (k : Nat), vi = .int .i64 k ∧ Hid (k ≤ len)) (fun vi => len - (intOf vi).toNat)
  case atStart => exact ⟨0, rfl, hide (by omega)⟩
  case round =>
    obtain ⟨k, rfl, HR⟩ := hrel
    by_cases hlt : k < len
    · have hlt' : (k : Int) < (len : Int) := by omega
      have hl := Hl.out
      rcases HL.out with hz | ⟨b, off, rfl, hb, hcell⟩
      · rw [hz] at hl; simp at hl; omega
      have hc := hcell k (by omega)
      have hg := HG.out k (by omega)
      generalize zs.getD k 0 = z at *
      clear hcell hl
      go_wp2
      go_round
      case rel => exact ⟨k + 1, by go_num, hide (by omega)⟩
      case measure => simp [intOf]; omega
    · have hlt' : ¬ (k : Int) < (len : Int) := by omega
      go_wp2_with fail
      go_loopw [9, 10, 11, 12, 13, 14] (fun vo vw vg vi _ _ wr => ∃ (k : Nat) (W G : Int), vi = .int .i64 k ∧ vw = .int .i64 W ∧ vg = .int .i64 G ∧ Hid (k ≤ len ∧ total (zs.take k) = W ∧ cumF t zs k = G ∧ Below w'.heap.size w' wr ∧ wr.ownsRow w'.heap.size 3 1 vo k ((shPre t zs k).map (Value.int .i64)))) (fun _ _ _ vi _ _ _ => len - (intOf vi).toNat)
      case atStart => exact ⟨0, 0, 0, rfl, rfl, rfl, hide ⟨by omega, rfl, HC.out, Below.refl _ _, World.ownsRow_nil _ _ _ _⟩⟩
      case round =>
        obtain ⟨j, W, G, rfl, rfl, rfl, HR⟩ := hrel
        obtain ⟨k1, k2, k3, k4, k5⟩ := HR.out
        clear HR
        by_cases hjt : j < len
        · have hjt' : (j : Int) < (len : Int) := by omega
          have hl := Hl.out
          have hLr := HL.out.below k4
          rcases hLr with hz | ⟨b, off, rfl, hb, hcell⟩
          · rw [hz] at hl; simp at hl; omega
          have hc := hcell j (by omega)
          have hts := take_snoc zs j (by omega)
          generalize zs.getD j 0 = z at *
          have hW' : total (zs.take (j + 1)) = W + z := by rw [hts, total_snoc, k2]
          have bW := HW.out j
          have bW2 := HW.out (j + 1)
          rw [k2] at bW
          rw [hW'] at bW2
          have hD := HT.out (j + 1) (W + z) hW'
          have hF := HF.out j
          rw [hD, k3] at hF
          have bG : -1099511627776 ≤ G ∧ G ≤ 1099511627776 := by rw [← k3]; unfold cumF; exact flV_bd _ _ _
          have bD := flV_bd t (W + z) T
          have CF := hide (fun w => rfloor_any t (W + z) T t1 t2 (by omega) (by omega) (by omega) w)
          generalize flV t (W + z) T = D at *
          generalize flB t (W + z) T = DB at *
          have K4 := hide k4
          have K5 := hide k5
          have KW := hide hW'
          have KD := hide hD
          have KS := hide (show (shPre t zs j).map (Value.int .i64) ++ [Value.int .i64 (D - G)] = (shPre t zs (j + 1)).map (Value.int .i64) by rw [HS.out j, ← hF, List.map_append]; rfl)
          have c1 : ∀ (i : Nat) (u : Value), [Value.int .i64 (D - G)][i]? = some u → (wr.alloc (.cells #[Value.int .i64 (D - G)] 3)).cell? ((⟨wr.heap.size, 0, none⟩ : Addr).add i) = some u := by
            intro i u hu
            match i, hu with
            | 0, hu => simp at hu; subst hu; simp [Addr.add]
          have c2 : ∀ u ∈ [Value.int .i64 (D - G)], u.oneCell' = true := by
            intro u hu; simp at hu; subst hu; rfl
          have c3 : j + 1 ≤ maxLen := by unfold maxLen; omega
          have c4 : (j + 1) * 8 ≤ 140737488355328 := by omega
          have c5 : w'.heap.size ≤ (wr.alloc (.cells #[Value.int .i64 (D - G)] 3)).heap.size := by have := k4.size; simp; omega
          have C1 := hide c1
          have C2 := hide c2
          have C3 := hide c3
          have C4 := hide c4
          have C5 := hide c5
          clear k2 k3 k4 k5 hts hcell hl hW' hF hD c1 c2 c3 c4 c5
          go_wp2_with (first | (go_at_call 21; refine (CF.out _).mono ?_; rintro e w'' ⟨rfl, rfl⟩) | (at_builtin; refine wpList_append_own _ rfl _ _ 29 rfl w'.heap.size 3 i0 (.int .i64 0) 1 8 Try.underlying29 HI.out HI0.out HI1.out HI2.out rfl (by decide) _ j _ rfl (K5.out.alloc _) ⟨_, 0, none⟩ 1 1 [.int .i64 (D - G)] rfl rfl C1.out C2.out C3.out C4.out C5.out ?_; intro v2 w2 hown2 hgrow2 hnil2))
          have hg : (w''.alloc (.cells #[Value.int .i64 (D - G)] 3)).grownBy w2 u9.ownBlock := hgrow2
          have hB2 : Below w'.heap.size w' w2 := (K4.out.alloc K4.out.size _).grown hg C5.out (fun r hr => (K5.out.lt r hr).1)
          rw [KS.out] at hown2
          clear hgrow2 hnil2 hg
          go_roundw
          case rel => exact ⟨j + 1, W + z, D, by go_num, rfl, rfl, hide ⟨by omega, KW.out, KD.out, hB2, hown2⟩⟩
          case measure => simp [intOf]; omega
        · have hjt' : ¬ (j : Int) < (len : Int) := by omega
          obtain rfl : j = len := by omega
          rw [HE.out] at k5
          obtain ⟨g, c, hv, hg1, hg2⟩ := k5.form hpos
          subst hv
          have K4 := hide k4
          have K5 := hide k5
          clear k2 k3 k4 k5
          go_wp2
          go_ret2
          exact ⟨g, c, rfl, K4.out, K5.out⟩
end Go.Proofs.Ytnabfcpapjmgfaa
