/-
  Rows of tables in memory; what the landed Find and the reference's answer.
-/
import Derived.Test.YtkdnoemakclmdaaM9Sml
import Derived.Test.YtkdnoemakclmdaaM9Cln
namespace Go.Proofs.Ytkdnoemakclmdaa
open Go.RowKit Go.Deep
set_option linter.unusedVariables false

abbrev Tab := ByteArray × ByteArray
def TLst (w : World) (a : Option Addr) (l : List Tab) : Prop :=
  l = [] ∨ ∃ b off, a = some ⟨b, off, none⟩ ∧ b < w.heap.size ∧ ∀ i x, l[i]? = some x → w.cell? ⟨b, off + i * 2, none⟩ = some (.string x.1) ∧ w.cell? ⟨b, off + i * 2 + 1, none⟩ = some (.string x.2)
theorem TLst.below {w w' : World} {a : Option Addr} {l : List Tab} (h : TLst w a l) (hb : Below w.heap.size w w') : TLst w' a l := by
  rcases h with h | ⟨b, off, h1, h2, h3⟩
  · exact Or.inl h
  · exact Or.inr ⟨b, off, h1, Nat.lt_of_lt_of_le h2 hb.size, fun i x hi => by rw [hb.cell (p := ⟨b, off + i * 2, none⟩) h2, hb.cell (p := ⟨b, off + i * 2 + 1, none⟩) h2]; exact h3 i x hi⟩
def finV (l : List Tab) (t : ByteArray) : Option ByteArray := (l.find? fun x => eqS x.1 t).map (·.2)
theorem finV_none {l : List Tab} {t : ByteArray} (h : ∀ (i : Nat) (x : Tab), l[i]? = some x → eqS x.1 t = false) : finV l t = none := by
  unfold finV
  rw [List.find?_eq_none.2]
  · rfl
  · intro x hx
    obtain ⟨i, hi, rfl⟩ := List.getElem_of_mem hx
    have := h i l[i] (List.getElem?_eq_getElem hi); rw [this]; simp
theorem finV_at : ∀ (l : List Tab) {t : ByteArray} (k : Nat) {x : Tab}, (∀ (i : Nat) (y : Tab), i < k → l[i]? = some y → eqS y.1 t = false) → l[k]? = some x → eqS x.1 t = true → finV l t = some x.2
  | [], t, k, x, _, h, _ => by simp at h
  | y :: l, t, 0, x, _, h, e => by
    simp at h; subst h
    unfold finV
    rw [List.find?_cons_of_pos (by exact e)]; rfl
  | y :: l, t, k + 1, x, hp, h, e => by
    have h0 := hp 0 y (by omega) rfl
    have ih := finV_at l (t := t) k (x := x) (fun i z hi hz => hp (i + 1) z (by omega) (by simpa using hz)) (by simpa using h) e
    unfold finV at *
    rw [List.find?_cons_of_neg (by rw [h0]; simp)]
    exact ih
def fnR : Option ByteArray → Value
  | none => .tuple #[.string ⟨#[]⟩, .bool false]
  | some d => .tuple #[.string d, .bool true]
set_option maxHeartbeats 1000000 in
theorem find_any (a : Option Addr) (l : List Tab) (n c : Nat) (t : ByteArray) (w : World) (hn : l.length = n) (hm : n ≤ 1073741824) (hd : ∀ x ∈ l, x.2.size ≤ 281474976710656) (hL : TLst w a l) :
    Calls Try.prog 18 #[.slice a n c, .string t] w fun e w' => e = .returned (fnR (finV l t)) ∧ Below w.heap.size w w' := by
  have hm' : (n : Int) ≤ 1073741824 := by omega
  have HL := hide hL
  have HN := hide hn
  have HD := hide hd
  clear hL hn hm hd
  go_enter Try.func18, Try.ntmps18
  go_wp2_with fail
  go_loopw [10] (fun vi wr => ∃ (k : Nat), vi = .int .i64 k ∧ Hid (k ≤ n ∧ (∀ (j : Nat) (y : Tab), j < k → l[j]? = some y → eqS y.1 t = false) ∧ Below w.heap.size w wr)) (fun vi _ => n - (intOf vi).toNat)
  case atStart => exact ⟨0, rfl, hide ⟨by omega, fun j _ hj => by omega, Below.refl _ _⟩⟩
  case round =>
    obtain ⟨k, rfl, HV⟩ := hrel
    obtain ⟨hk, hv, hb⟩ := HV.out
    have hk0 : (0 : Int) ≤ (k : Int) := by omega
    have HVV := hide hv
    have HB := hide hb
    clear HV hv
    by_cases hlt : k < n
    case neg =>
      have hlt' : ¬ (k : Int) < (n : Int) := by omega
      have E : Hid (finV l t = none) := hide (finV_none fun i x hi => by
        have h1 := (List.getElem?_eq_some_iff.1 hi).1
        have h2 := HN.out
        exact HVV.out i x (by omega) hi)
      clear HVV hb
      go_wp2_with fail
      go_ret2
      exact ⟨by rw [E.out]; rfl, HB.out⟩
    have hlt' : (k : Int) < (n : Int) := by omega
    obtain ⟨x, hx⟩ : ∃ x, l[k]? = some x := ⟨_, List.getElem?_eq_getElem (by have := HN.out; omega)⟩
    rcases HL.out.below hb with hz | ⟨b, o, rfl, hbl, hcell⟩
    · rw [hz] at hx; simp at hx
    obtain ⟨c0, c1⟩ := hcell k x hx
    have hdx : x.2.size ≤ 281474976710656 := HD.out x (List.mem_of_getElem? hx)
    have CC := hide (fun w => clone_any x.2 w hdx)
    have HX := hide hx
    obtain ⟨x1, x2⟩ := x
    have hne : b ≠ wr.heap.size := by omega
    have hal := (Below.refl wr.heap.size wr).alloc (Nat.le_refl _) (.cells #[.string x1, .string x2] 34)
    have HAL := hide (below_t5 hb hal)
    clear hcell hb hx hal hdx
    by_cases q : eqS x1 t = true
    · have q' : (x1.toList == t.toList) = true := q
      have E := hide (finV_at l k HVV.out HX.out q)
      clear HVV q
      go_wp2_with (go_at_call 22; refine (CC.out _).mono ?_; rintro e w1 ⟨rfl, h1⟩)
      go_ret2
      exact ⟨by rw [E.out]; rfl, below_t5 HAL.out h1⟩
    · have q0 : eqS x1 t = false := by simpa using q
      have q' : (x1.toList == t.toList) = false := q0
      have E : Hid (∀ (j : Nat) (y : Tab), j < k + 1 → l[j]? = some y → eqS y.1 t = false) := hide fun j y hj hy => by
        rcases Nat.lt_or_ge j k with h' | h'
        · exact HVV.out j y h' hy
        · obtain rfl : j = k := by omega
          rw [HX.out] at hy
          injection hy with hy
          rw [← hy]; exact q0
      clear HVV q q0
      go_wp2_with fail
      go_roundw
      case rel => exact ⟨k + 1, by go_num, hide ⟨by omega, E.out, HAL.out⟩⟩
      case measure => simp [intOf]; omega
end Go.Proofs.Ytkdnoemakclmdaa
