/-
  What fixed.anyBelowZero and fixed.Share answer of at most 4096 parts.
-/
import Derived.Test.YtnabfcpapjmgfaaSums
import Derived.Laws.OwnMore
namespace Go.Proofs.Ytnabfcpapjmgfaa
open Go.RowKit

def negB (zs : List Int) : Bool := zs.any fun z => decide (z < 0)
theorem negB_at (zs : List Int) (k : Nat) (h : k < zs.length) (hz : zs.getD k 0 < 0) : negB zs = true := by
  unfold negB
  rw [List.any_eq_true]
  refine ⟨zs.getD k 0, ?_, by simpa using hz⟩
  rw [List.getD_eq_getElem?_getD, List.getElem?_eq_getElem h]
  exact List.getElem_mem h
theorem negB_none (zs : List Int) (h : ∀ i, i < zs.length → 0 ≤ zs.getD i 0) : negB zs = false := by
  unfold negB
  rw [List.any_eq_false]
  intro z hz
  obtain ⟨i, hi, rfl⟩ := List.mem_iff_getElem.1 hz
  have := h i hi
  rw [List.getD_eq_getElem?_getD, List.getElem?_eq_getElem hi] at this
  simpa using this

theorem neg_core (a : Option Addr) (len cap : Nat) (zs : List Int) (w : World) (hl : zs.length = len) (h4 : len ≤ 4096) (hL : Lst w a zs) (B : Bool) (hB : B = negB zs) :
    Calls Try.prog 32 #[.slice a len cap] w fun e w' => e = .returned (.bool B) ∧ w' = w := by
  have HB := hide hB
  have HL := hide hL
  have Hl := hide hl
  have h5 : (len : Int) ≤ 4096 := by omega
  clear hL hl hB
  go_enter Try.func32, Try.ntmps32
  go_wp2_with fail
  go_loop [4, 7] (fun _ vi => ∃ (k : Nat), vi = .int .i64 k ∧ Hid (k ≤ len ∧ ∀ i, i < k → 0 ≤ zs.getD i 0)) (fun _ vi => len - (intOf vi).toNat)
  case atStart => exact ⟨0, rfl, hide ⟨by omega, fun i hi => absurd hi (by omega)⟩⟩
  case round =>
    obtain ⟨k, rfl, HR⟩ := hrel
    by_cases hlt : k < len
    · have hlt' : (k : Int) < (len : Int) := by omega
      have hl := Hl.out
      rcases HL.out with hz | ⟨b, off, rfl, hb, hcell⟩
      · rw [hz] at hl; simp at hl; omega
      have hc := hcell k (by omega)
      have hn := negB_at zs k (by omega)
      generalize hzk : zs.getD k 0 = z at *
      by_cases hz : z < 0
      · obtain rfl : B = true := by rw [HB.out]; exact hn hz
        clear HB hn hcell hl hzk
        go_wp2
        go_ret
        exact ⟨rfl, rfl⟩
      · have HZ := hide hzk
        clear hn hcell hl hzk
        go_wp2
        go_round
        case rel =>
          refine ⟨k + 1, by go_num, hide ⟨by omega, fun i hi => ?_⟩⟩
          by_cases hik : i = k
          · rw [hik, HZ.out]; omega
          · exact HR.out.2 i (by omega)
        case measure => simp [intOf]; omega
    · have hlt' : ¬ (k : Int) < (len : Int) := by omega
      obtain rfl : B = false := by
        rw [HB.out]
        refine negB_none zs fun i hi => HR.out.2 i ?_
        have := Hl.out
        omega
      clear HB
      go_wp2
      go_ret
      exact ⟨rfl, rfl⟩
theorem neg_any (a : Option Addr) (len cap : Nat) (zs : List Int) (w : World) (hl : zs.length = len) (h4 : len ≤ 4096) (hL : Lst w a zs) :
    Calls Try.prog 32 #[.slice a len cap] w fun e w' => e = .returned (.bool (negB zs)) ∧ w' = w :=
  neg_core a len cap zs w hl h4 hL _ rfl

/- the shares: differences of what is due -/
def shOK (t : Int) (zs : List Int) : Bool := smB zs && !(total zs == 0) && inB t && !(negB zs)
def cumF (t : Int) (zs : List Int) (k : Nat) : Int := flV t (total (zs.take k)) (total zs)
def shF (t : Int) (zs : List Int) (i : Nat) : Int := cumF t zs (i + 1) - cumF t zs i
def shRow (t : Int) (zs : List Int) (n k : Nat) : List Int := (List.range n).map fun i => if i < k then shF t zs i else 0
def shL (t : Int) (zs : List Int) : List Int := (List.range zs.length).map (shF t zs)

theorem flV_bd (a b c : Int) : -1099511627776 ≤ flV a b c ∧ flV a b c ≤ 1099511627776 := by
  unfold flV tolV
  split
  · split
    · rename_i h; exact inB_bd h
    · omega
  · omega
theorem cum_zero (t : Int) (zs : List Int) : cumF t zs 0 = 0 := by
  have hm : mag t 0 = 0 := by simp [mag]
  have : dvQ t 0 (total zs) = 0 := by
    unfold dvQ
    rw [hm]
    simp
  unfold cumF
  rw [List.take_zero, show total [] = 0 from rfl]
  unfold flV
  rw [this, show tolV 0 = 0 by decide]
  simp
theorem shRow_zero (t : Int) (zs : List Int) (n : Nat) : shRow t zs n 0 = List.replicate n 0 := by
  unfold shRow
  apply List.ext_getElem
  · simp
  · intro i h1 h2; simp
theorem shRow_set (t : Int) (zs : List Int) (n k : Nat) : (shRow t zs n k).set k (shF t zs k) = shRow t zs n (k + 1) := by
  unfold shRow
  apply List.ext_getElem
  · simp
  · intro i h1 h2
    rw [List.getElem_set]
    simp only [List.getElem_map, List.getElem_range]
    by_cases h : k = i
    · subst h; simp
    · rw [if_neg h]
      by_cases h3 : i < k
      · rw [if_pos h3, if_pos (by omega)]
      · rw [if_neg h3, if_neg (by omega)]
theorem shRow_full (t : Int) (zs : List Int) : shRow t zs zs.length zs.length = shL t zs := by
  unfold shRow shL
  apply List.map_congr_left
  intro i hi
  rw [if_pos (List.mem_range.1 hi)]
theorem shRow_len (t : Int) (zs : List Int) (n k : Nat) : (shRow t zs n k).length = n := by simp [shRow]

/- a row of the call's own that holds a list of ints -/
def Own (w : World) (base g n cap : Nat) (ys : List Int) : Prop := w.ownsRow base 3 1 (.slice (some ⟨g, 0, none⟩) n cap) n (ys.map (Value.int .i64))
theorem Own.lst {w : World} {base g n cap : Nat} {ys : List Int} (h : Own w base g n cap ys) (hn : ys.length = n) : Lst w (some ⟨g, 0, none⟩) ys := by
  by_cases h0 : ys = []
  · exact Or.inl h0
  · have hlt := (World.ownsRow.lt h g rfl).2
    refine Or.inr ⟨g, 0, rfl, hlt, fun i hi => ?_⟩
    rw [Nat.zero_add, World.ownsRow.cellAt h i (by omega), List.getElem?_map, List.getElem?_eq_getElem hi, List.getD_eq_getElem?_getD, List.getElem?_eq_getElem hi]
    rfl
theorem Own.base_le {w : World} {base g n cap : Nat} {ys : List Int} (h : Own w base g n cap ys) : base ≤ g ∧ g < w.heap.size := World.ownsRow.lt h g rfl
theorem Own.drewN {w : World} {base g n cap : Nat} {ys : List Int} (h : Own w base g n cap ys) (k : Nat) : Own (w.drewN k) base g n cap ys := h
theorem Own.stored {w : World} {base g n cap : Nat} {ys : List Int} (h : Own w base g n cap ys) (j : Nat) (x : Int) : Own (w.setCell ⟨g, j, none⟩ (.int .i64 x)) base g n cap (ys.set j x) := by
  have := (World.ownsRow.stored h j (.int .i64 x)).1
  unfold Own
  rw [List.map_set]
  exact this

theorem share_bad (t : Int) (a : Option Addr) (len cap : Nat) (zs : List Int) (w : World) (hl : zs.length = len) (h4 : len ≤ 4096) (hL : Lst w a zs) (hok : shOK t zs = false) :
    Calls Try.prog 26 #[.int .i64 t, .slice a len cap] w fun e w' => e = .returned (.tuple #[.slice none 0 0, .bool false]) ∧ ∃ n, w' = w.drewN n := by
  have CS := hide (fun w h => sum_any a len cap zs w hl h4 h)
  have CN := hide (fun w h => neg_any a len cap zs w hl h4 h)
  have HL := hide hL
  have way : smB zs = false ∨ (smB zs = true ∧ (smV zs == 0) = true) ∨ (smB zs = true ∧ (smV zs == 0) = false ∧ inB t = false) ∨ (smB zs = true ∧ (smV zs == 0) = false ∧ inB t = true ∧ negB zs = true) := by
    unfold shOK at hok
    cases h1 : smB zs
    · exact Or.inl rfl
    · have hv : smV zs = total zs := by
        unfold smB at h1
        simp only [Bool.and_eq_true] at h1
        unfold smV
        rw [h1.1, if_pos rfl, tolV_t h1.2]
      rw [h1] at hok
      rw [hv]
      cases h2 : (total zs == 0)
      · cases h3 : inB t
        · exact Or.inr (Or.inr (Or.inl ⟨rfl, rfl, rfl⟩))
        · rw [h2, h3] at hok
          exact Or.inr (Or.inr (Or.inr ⟨rfl, rfl, rfl, by simpa using hok⟩))
      · exact Or.inr (Or.inl ⟨rfl, rfl⟩)
  clear hok hL hl h4
  generalize smV zs = V at *
  generalize smB zs = B at *
  generalize negB zs = N at *
  rcases way with h1 | ⟨h1, h2⟩ | ⟨h1, h2, h3⟩ | ⟨h1, h2, h3, h5⟩
  · subst h1
    go_enter Try.func26, Try.ntmps26
    go_wp2_with (go_at_call 23; refine (CS.out _ HL.out).mono ?_; rintro e w' ⟨rfl, n, rfl⟩)
    go_ret2
    exact ⟨rfl, n, rfl⟩
  · subst h1
    go_enter Try.func26, Try.ntmps26
    go_wp2_with (go_at_call 23; refine (CS.out _ HL.out).mono ?_; rintro e w' ⟨rfl, n, rfl⟩)
    go_ret2
    exact ⟨rfl, n, rfl⟩
  · subst h1
    go_enter Try.func26, Try.ntmps26
    go_wp2_with (first | (go_at_call 23; refine (CS.out _ HL.out).mono ?_; rintro e w' ⟨rfl, n, rfl⟩) | (go_at_call 13; refine (in_any _ _).mono ?_; rintro e w' ⟨rfl, rfl⟩))
    go_ret2
    exact ⟨rfl, _, rfl⟩
  · subst h1 h5
    go_enter Try.func26, Try.ntmps26
    go_wp2_with (first | (go_at_call 23; refine (CS.out _ HL.out).mono ?_; rintro e w' ⟨rfl, n, rfl⟩) | (go_at_call 13; refine (in_any _ _).mono ?_; rintro e w' ⟨rfl, rfl⟩) | (go_at_call 32; refine (CN.out _ (HL.out.drewN _)).mono ?_; rintro e w' ⟨rfl, rfl⟩))
    go_ret2
    exact ⟨rfl, _, rfl⟩
end Go.Proofs.Ytnabfcpapjmgfaa
