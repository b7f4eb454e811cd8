/-
  What the reference's Build answers where it answers an error.
-/
import Derived.Test.YtgmmhlpdkoiheaaDoorS8So
import Derived.Test.YtgmmhlpdkoiheaaDoorS8Sq
namespace Go.Proofs.YtgmmhlpdkoiheaaDoor
open Go.RowKit Go.Deep
set_option linter.unusedVariables false

def tz : Tab := (⟨#[]⟩, ⟨#[]⟩)
def okT (m : List Tab) (i : Nat) : Bool := tagB (m.getD i tz).1 && (decide (i = 0) || !eqS (m.getD i tz).1 (m.getD (i - 1) tz).1)
def szT (m : List Tab) : Nat → Nat
  | 0 => 12 + 16 * m.length
  | k + 1 => if 1048576 < (m.getD k tz).2.size ∨ 1048576 < szT m k then 1048577 else szT m k + ((m.getD k tz).2.size + 3) / 4 * 4
def okA (m : List Tab) : Prop := ∀ i, i < m.length → okT m i = true
instance (m : List Tab) : Decidable (okA m) := by unfold okA; infer_instance
def bErr (l : List Tab) : Int := if l.length < 1 ∨ 32 < l.length then 80 else if okA (sorV l) then (if 1048576 < szT (sorV l) l.length then 2 else 0) else 80
theorem szT_le (m : List Tab) (h : m.length ≤ 32) : ∀ k, szT m k ≤ 2097156
  | 0 => by rw [szT]; omega
  | k + 1 => by rw [szT]; split <;> omega
theorem sor_len (l : List Tab) : (sorV l).length = l.length := by unfold sorV; rw [sorV_len]; simp
set_option maxRecDepth 8000 in
set_option maxHeartbeats 8000000 in
theorem rbuild_err (a : Option Addr) (l : List Tab) (n c : Nat) (w : World) (hn : l.length = n) (hm : n ≤ 1073741824) (hz : ∀ x ∈ l, x.1.size ≤ 1073741824 ∧ x.2.size ≤ 1073741824) (hL : TLst w a l) (hE : bErr l ≠ 0) :
    Calls Tryd.prog 20 #[.slice a n c] w fun e w' => e = .returned (.tuple #[.string ⟨#[]⟩, .int .i64 (bErr l)]) ∧ Below w.heap.size w w' := by
  have hm' : (n : Int) ≤ 1073741824 := by omega
  by_cases h1 : n < 1
  · have e : bErr l = 80 := by unfold bErr; rw [if_pos (by omega)]
    rw [e]
    have h1' : (n : Int) < 1 := by omega
    clear hL hn hm hE e hz h1
    go_enter Tryd.func20, Tryd.ntmps20
    go_wp2_with fail
    go_ret2
    exact ⟨rfl, Below.refl _ _⟩
  by_cases h2 : 32 < n
  · have e : bErr l = 80 := by unfold bErr; rw [if_pos (by omega)]
    rw [e]
    have h1' : ¬ (n : Int) < 1 := by omega
    have h2' : (32 : Int) < (n : Int) := by omega
    clear hL hn hm hE e hz h1 h2
    go_enter Tryd.func20, Tryd.ntmps20
    go_wp2_with fail
    go_ret2
    exact ⟨rfl, Below.refl _ _⟩
  have h1' : ¬ (n : Int) < 1 := by omega
  have h2' : ¬ (32 : Int) < (n : Int) := by omega
  have hC := rsorted_any a l n c w hn (by omega) hL
  unfold SoR at hC
  have C := hide hC
  clear hC
  have hml : (sorV l).length = n := by rw [sor_len, hn]
  have HBE := hide (show (¬ okA (sorV l) → bErr l = 80) ∧ (okA (sorV l) → 1048576 < szT (sorV l) n → bErr l = 2) ∧ (okA (sorV l) → szT (sorV l) n ≤ 1048576 → False) by
    have e : bErr l = if okA (sorV l) then (if 1048576 < szT (sorV l) n then 2 else 0) else 80 := by unfold bErr; rw [if_neg (by omega), hn]
    refine ⟨fun h => by rw [e, if_neg h], fun h h' => by rw [e, if_pos h, if_pos h'], fun h h' => hE (by rw [e, if_pos h, if_neg (by omega)])⟩)
  have hmem : ∀ x, x ∈ sorV l → x ∈ l := by
    have k1 : ∀ (x y : Tab) (r : List Tab), y ∈ insR x r → y = x ∨ y ∈ r := by
      intro x y r
      induction r with
      | nil => intro h; simp [insR] at h; exact Or.inl h
      | cons q r ih =>
        intro h
        rw [insR] at h
        split at h
        · rcases List.mem_cons.1 h with h | h
          · exact Or.inr (by rw [h]; exact List.mem_cons_self)
          · rcases ih h with h | h
            · exact Or.inl h
            · exact Or.inr (List.mem_cons_of_mem _ h)
        · rcases List.mem_cons.1 h with h | h
          · exact Or.inl h
          · exact Or.inr h
    have k2 : ∀ (r acc : List Tab) (y : Tab), y ∈ r.foldl (fun a x => insV x a) acc → y ∈ acc ∨ y ∈ r := by
      intro r
      induction r with
      | nil => intro acc y h; exact Or.inl h
      | cons q r ih =>
        intro acc y h
        rcases ih _ y h with h | h
        · unfold insV at h
          rcases k1 q y _ (List.mem_reverse.1 h) with h | h
          · exact Or.inr (by rw [h]; exact List.mem_cons_self)
          · exact Or.inl (List.mem_reverse.1 h)
        · exact Or.inr (List.mem_cons_of_mem _ h)
    intro x hx
    rcases k2 l [] x hx with h | h
    · simp at h
    · exact h
  have HZ := hide (fun x (hx : x ∈ sorV l) => hz x (hmem x hx))
  generalize bErr l = R at *
  generalize sorV l = m at *
  have hns : (n : Int) ≤ 32 := by omega
  have HSZ := hide (szT_le m (by omega))
  have HML := hide hml
  clear hL hn hm hE hz hmem h1 h2 hml
  go_enter Tryd.func20, Tryd.ntmps20
  go_wp2_with fail
  refine C.out.mono ?_
  rintro e y ⟨v, rfl, hT, hb⟩
  obtain ⟨g, cap, rfl, hg, hcell⟩ := hT.at (by have := HML.out; omega)
  rw [HML.out]
  have HBY := hide hb
  have KS : Hid (∀ u, Below y.heap.size y u → ∀ i x, m[i]? = some x → u.cell? ⟨g, i * 2, none⟩ = some (.string x.1) ∧ u.cell? ⟨g, i * 2 + 1, none⟩ = some (.string x.2)) := hide (fun u hu i x hx => by
    rw [hu.cell (p := ⟨g, i * 2, none⟩) hg, hu.cell (p := ⟨g, i * 2 + 1, none⟩) hg]
    exact hcell i x hx)
  clear hT hb hcell
  go_wp2_with fail
  go_loopw [5, 6] (fun vs vi wr => ∃ i : Nat, vi = .int .i64 i ∧ vs = .int .i64 ((szT m i : Nat) : Int) ∧ Hid (i ≤ n ∧ (∀ j, j < i → okT m j = true) ∧ Below y.heap.size y wr)) (fun _ vi _ => n - (intOf vi).toNat)
  case atStart => exact ⟨0, rfl, by rw [szT, HML.out]; go_num, hide ⟨by omega, fun j hj => by omega, Below.refl _ _⟩⟩
  case round =>
    obtain ⟨i, rfl, rfl, HV⟩ := hrel
    obtain ⟨hi, hall, hbw⟩ := HV.out
    have hi0 : (0 : Int) ≤ (i : Int) := by omega
    have hs1 : ((szT m i : Nat) : Int) ≤ 2097156 := by have := HSZ.out i; omega
    have hs0 : (0 : Int) ≤ ((szT m i : Nat) : Int) := by omega
    clear HV
    have HALL := hide hall
    have HBW := hide hbw
    by_cases hlt : i < n
    case neg =>
      have hlt' : ¬ (i : Int) < (n : Int) := by omega
      obtain rfl : i = n := by omega
      have hok : okA m := fun j hj => HALL.out j (by have := HML.out; omega)
      obtain ⟨_, b2, b3⟩ := HBE.out
      have hlong : 1048576 < szT m i := by
        rcases Nat.lt_or_ge 1048576 (szT m i) with h | h
        · exact h
        · exact absurd (b3 hok h) id
      have HR := hide (b2 hok hlong)
      have hl2 : (1048576 : Int) < ((szT m i : Nat) : Int) := by omega
      generalize szT m i = Z at *
      clear hall hbw HALL hlt hok hlong b2 b3
      go_wp2_with fail
      go_ret2
      exact ⟨by rw [HR.out]; rfl, HBY.out.trans (HBW.out.mono HBY.out.size)⟩
    have hlt' : (i : Int) < (n : Int) := by omega
    obtain ⟨x, hx⟩ : ∃ x, m[i]? = some x := ⟨_, List.getElem?_eq_getElem (by have := HML.out; omega)⟩
    have hgx : m.getD i tz = x := by rw [List.getD_eq_getElem?_getD, hx]; rfl
    obtain ⟨zx1, zx2⟩ := HZ.out x (List.mem_of_getElem? hx)
    obtain ⟨c0, c1⟩ := KS.out wr hbw i x hx
    have hst : szT m (i + 1) = if 1048576 < x.2.size ∨ 1048576 < szT m i then 1048577 else szT m i + (x.2.size + 3) / 4 * 4 := by rw [szT, hgx]
    have hok : okT m i = (tagB x.1 && (decide (i = 0) || !eqS x.1 (m.getD (i - 1) tz).1)) := by unfold okT; rw [hgx]
    have HBAD : Hid (okT m i = false → R = 80) := hide (fun h => HBE.out.1 (fun hA => by have := hA i (by have := HML.out; omega); rw [h] at this; simp at this))
    have HNX : Hid (okT m i = true → ∀ j, j < i + 1 → okT m j = true) := hide (fun h j hj => by
      rcases Nat.lt_or_ge j i with h' | h'
      · exact HALL.out j h'
      · obtain rfl : j = i := by omega
        exact h)
    have HST := hide hst
    have CTg := hide (fun w => rtag_all x.1 w (by omega))
    obtain ⟨x1, x2⟩ := x
    simp only at zx1 zx2 hok CTg c0 c1
    have zx2' : (x2.size : Int) ≤ 1073741824 := by omega
    have HX := hide hx
    clear hst hgx hall hx
    cases htg : tagB x1
    case false =>
      rw [htg] at CTg hok
      have HR := hide (HBAD.out (by rw [hok]; rfl))
      clear hok hbw HALL HNX HST HBAD
      generalize szT m i = Z at *
      go_wp2_with fail
      go_quiet ((go_at_call 31; exact Calls.quiet_of_same (CTg.out _)))
      go_wp2_with fail
      go_ret2
      exact ⟨by rw [HR.out]; rfl, HBY.out.trans ((below_drewN HBW.out _).mono HBY.out.size)⟩
    rw [htg] at CTg hok
    by_cases hi1 : 0 < i
    case neg =>
      have hi1' : ¬ (0 : Int) < (i : Int) := by omega
      have HNN := hide (HNX.out (by rw [hok, show decide (i = 0) = true by rw [decide_eq_true_eq]; omega]; rfl))
      clear hok hbw HALL HNX HBAD
      obtain ⟨Z, hZ⟩ : ∃ Z, szT m i = Z := ⟨_, rfl⟩
      rw [hZ] at HST hs1 hs0 ⊢
      clear hZ
      by_cases g1 : 1048576 < x2.size
      · have g1' : (1048576 : Int) < (x2.size : Int) := by omega
        have HZZ := hide (show szT m (i + 1) = 1048577 by rw [HST.out, if_pos (Or.inl g1)])
        clear g1 HST
        go_wp2_with fail
        go_quiet ((go_at_call 31; exact Calls.quiet_of_same (CTg.out _)))
        go_wp2_with fail
        go_roundw
        case rel => exact ⟨i + 1, by go_num, by rw [HZZ.out]; rfl, hide ⟨by omega, HNN.out, below_drewN HBW.out _⟩⟩
        case measure => simp [intOf]; omega
      have g1' : ¬ (1048576 : Int) < (x2.size : Int) := by omega
      by_cases g2 : 1048576 < Z
      · have g2' : (1048576 : Int) < (Z : Int) := by omega
        have HZZ := hide (show szT m (i + 1) = 1048577 by rw [HST.out, if_pos (Or.inr g2)])
        clear g1 g2 HST
        go_wp2_with fail
        go_quiet ((go_at_call 31; exact Calls.quiet_of_same (CTg.out _)))
        go_wp2_with fail
        go_roundw
        case rel => exact ⟨i + 1, by go_num, by rw [HZZ.out]; rfl, hide ⟨by omega, HNN.out, below_drewN HBW.out _⟩⟩
        case measure => simp [intOf]; omega
      have g2' : ¬ (1048576 : Int) < (Z : Int) := by omega
      have HZZ := hide (show ((szT m (i + 1) : Nat) : Int) = (Z : Int) + ((x2.size : Int) + 3) / 4 * 4 by have h := HST.out; simp only at h; rw [h, if_neg (by omega)]; omega)
      clear g1 g2 HST
      go_wp2_with fail
      go_quiet ((go_at_call 31; exact Calls.quiet_of_same (CTg.out _)))
      go_wp2_with fail
      go_roundw
      case rel => exact ⟨i + 1, by go_num, by rw [HZZ.out], hide ⟨by omega, HNN.out, below_drewN HBW.out _⟩⟩
      case measure => simp [intOf]; omega
    obtain ⟨p, rfl⟩ : ∃ p, i = p + 1 := ⟨i - 1, by omega⟩
    obtain ⟨y', hy⟩ : ∃ y, m[p]? = some y := ⟨_, List.getElem?_eq_getElem (by have := HML.out; omega)⟩
    have hgy : m.getD (p + 1 - 1) tz = y' := by rw [List.getD_eq_getElem?_getD, Nat.add_sub_cancel, hy]; rfl
    obtain ⟨d0, d1⟩ := KS.out wr hbw p y' hy
    rw [hgy, show decide (p + 1 = 0) = false by simp, Bool.true_and, Bool.false_or] at hok
    obtain ⟨y1, y2⟩ := y'
    simp only at hok d0 d1
    have hi1' : (0 : Int) < (p : Int) + 1 := by omega
    have hp0 : (0 : Int) ≤ (p : Int) := by omega
    have hlt2 : (p : Int) + 1 < (n : Int) := by omega
    cases hq : eqS x1 y1
    case true =>
      have hq' : (x1.toList == y1.toList) = true := hq
      have HR := hide (HBAD.out (by rw [hok, hq]; rfl))
      clear hok hbw HALL HNX HST HBAD hq hgy hy
      generalize szT m (p + 1) = Z at *
      go_wp2_with fail
      go_quiet ((go_at_call 31; exact Calls.quiet_of_same (CTg.out _)))
      go_wp2_with fail
      go_ret2
      exact ⟨by rw [HR.out]; rfl, HBY.out.trans ((below_drewN HBW.out _).mono HBY.out.size)⟩
    have hq' : (x1.toList == y1.toList) = false := hq
    have HNN := hide (HNX.out (by rw [hok, hq]; rfl))
    clear hok hbw HALL HNX HBAD hq hgy hy
    obtain ⟨Z, hZ⟩ : ∃ Z, szT m (p + 1) = Z := ⟨_, rfl⟩
    rw [hZ] at HST hs1 hs0 ⊢
    clear hZ
    by_cases g1 : 1048576 < x2.size
    · have g1' : (1048576 : Int) < (x2.size : Int) := by omega
      have HZZ := hide (show szT m (p + 1 + 1) = 1048577 by rw [HST.out, if_pos (Or.inl g1)])
      clear g1 HST
      go_wp2_with fail
      go_quiet ((go_at_call 31; exact Calls.quiet_of_same (CTg.out _)))
      go_wp2_with fail
      go_roundw
      case rel => exact ⟨p + 1 + 1, by go_num, by rw [HZZ.out]; rfl, hide ⟨by omega, HNN.out, below_drewN HBW.out _⟩⟩
      case measure => simp [intOf]; omega
    have g1' : ¬ (1048576 : Int) < (x2.size : Int) := by omega
    by_cases g2 : 1048576 < Z
    · have g2' : (1048576 : Int) < (Z : Int) := by omega
      have HZZ := hide (show szT m (p + 1 + 1) = 1048577 by rw [HST.out, if_pos (Or.inr g2)])
      clear g1 g2 HST
      go_wp2_with fail
      go_quiet ((go_at_call 31; exact Calls.quiet_of_same (CTg.out _)))
      go_wp2_with fail
      go_roundw
      case rel => exact ⟨p + 1 + 1, by go_num, by rw [HZZ.out]; rfl, hide ⟨by omega, HNN.out, below_drewN HBW.out _⟩⟩
      case measure => simp [intOf]; omega
    have g2' : ¬ (1048576 : Int) < (Z : Int) := by omega
    have HZZ := hide (show ((szT m (p + 1 + 1) : Nat) : Int) = (Z : Int) + ((x2.size : Int) + 3) / 4 * 4 by have h := HST.out; simp only at h; rw [h, if_neg (by omega)]; omega)
    clear g1 g2 HST
    go_wp2_with fail
    go_quiet ((go_at_call 31; exact Calls.quiet_of_same (CTg.out _)))
    go_wp2_with fail
    go_roundw
    case rel => exact ⟨p + 1 + 1, by go_num, by rw [HZZ.out], hide ⟨by omega, HNN.out, below_drewN HBW.out _⟩⟩
    case measure => simp [intOf]; omega
end Go.Proofs.YtgmmhlpdkoiheaaDoor
