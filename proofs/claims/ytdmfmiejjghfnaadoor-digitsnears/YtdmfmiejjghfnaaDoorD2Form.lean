/-
  What the reference's Form (chapter 2) answers: where the digits of a number's text begin and end, or that it is none.
-/
import Derived.Test.YtdmfmiejjghfnaaDoorD2Scan
namespace Go.Proofs.YtdmfmiejjghfnaaDoor
open Go.RowKit

/- the parts of a text as a number -/
def fmAt (l : List UInt8) : Nat := if l.head? = some 45 then 1 else 0
def fmEnd (l : List UInt8) : Nat := fmAt l + dgc (l.drop (fmAt l))
def fmOK (l : List UInt8) : Bool :=
  decide (fmEnd l ≠ fmAt l) && (decide (fmEnd l = l.length) || (decide (l[fmEnd l]? = some 46) && decide (dgc (l.drop (fmEnd l + 1)) ≠ 0) && decide (fmEnd l + 1 + dgc (l.drop (fmEnd l + 1)) = l.length)))
def fmBehind (l : List UInt8) : Nat := if fmEnd l = l.length then fmEnd l else fmEnd l + 1
theorem fmAt_le (l : List UInt8) : fmAt l ≤ l.length := by
  unfold fmAt
  split
  · cases l <;> simp_all
  · omega
theorem fmEnd_le (l : List UInt8) : fmEnd l ≤ l.length := by
  unfold fmEnd
  have h1 := dgc_le (l.drop (fmAt l))
  have h2 := fmAt_le l
  rw [List.length_drop] at h1
  omega
theorem get_byte (s : ByteArray) (k : Nat) (h : k < s.size) : s.data.toList[k]? = some s[k] := by
  rw [List.getElem?_eq_getElem (by simpa using h)]
  rfl

/- the walk, under names: E the end, d2 how many digits behind the point -/
def fmRes (s : ByteArray) (A E d2 : Nat) : Value :=
  if E = A then .tuple #[.int .i64 0, .int .i64 0, .int .i64 0, .bool false]
  else if E = s.size then .tuple #[.int .i64 A, .int .i64 E, .int .i64 E, .bool true]
  else if s.data.toList[E]? = some 46 ∧ d2 ≠ 0 ∧ E + 1 + d2 = s.size then .tuple #[.int .i64 A, .int .i64 E, .int .i64 ((E : Int) + 1), .bool true]
  else .tuple #[.int .i64 0, .int .i64 0, .int .i64 0, .bool false]

set_option maxHeartbeats 1000000 in
theorem form_walk (s : ByteArray) (A E d1 d2 : Nat) (w : World) (hs : s.size ≤ 9223372036854775000) (hE : E = A + d1) (e1 : E ≤ s.size)
    (c1 : ∀ w, Calls Tryd.prog 39 #[.string s, .int .i64 A] w fun e w' => e = .returned (.int .i64 d1) ∧ w' = w)
    (c2 : E < s.size → ∀ w, Calls Tryd.prog 39 #[.string s, .int .i64 ((E : Int) + 1)] w fun e w' => e = .returned (.int .i64 d2) ∧ w' = w)
    (hd2 : E < s.size → E + 1 + d2 ≤ s.size)
    (dA : (A = 0 ∧ s.size = 0) ∨ (∃ h : 0 < s.size, A = 1 ∧ s[0] = 45) ∨ (∃ h : 0 < s.size, A = 0 ∧ s[0] ≠ 45)) :
    Calls Tryd.prog 28 #[.string s] w fun e w' => e = .returned (fmRes s A E d2) ∧ w' = w := by
  have C1 := hide c1
  have C2 := hide c2
  clear c1 c2
  rcases dA with ⟨rfl, h0⟩ | ⟨h0, rfl, hc⟩ | ⟨h0, rfl, hc⟩
  · obtain rfl : E = 0 := by omega
    obtain rfl : d1 = 0 := by omega
    rw [show fmRes s 0 0 d2 = .tuple #[.int .i64 0, .int .i64 0, .int .i64 0, .bool false] by unfold fmRes; rw [if_pos rfl]]
    rw [show ((0 : Nat) : Int) = 0 from rfl] at C1
    have f0 : decide (0 < s.size) = false := decide_eq_false (by omega)
    clear C2 hd2 hE e1 h0
    go_enter Tryd.func28, Tryd.ntmps28
    go_wp2_with (go_at_call 39; refine (C1.out _).mono ?_; rintro e w' ⟨rfl, rfl⟩)
    exact bodyPost_ret (v := .tuple #[.int .i64 0, .int .i64 0, .int .i64 0, .bool false]) (by simp [results, Tryd.results28, go_sem]) rfl ⟨rfl, rfl⟩
  · have f0 : 0 < s.size := h0
    have f1 : ((s[0].toNat : Int) == 45) = true := by rw [hc]; rfl
    rw [show ((1 : Nat) : Int) = 1 from rfl] at C1
    have eE : (1 : Int) + (d1 : Int) = (E : Int) := by omega
    clear hE
    by_cases k1 : E = 1
    · rw [show fmRes s 1 E d2 = .tuple #[.int .i64 0, .int .i64 0, .int .i64 0, .bool false] by unfold fmRes; rw [if_pos k1]]
      have f2 : ((E : Int) == 1) = true := by rw [beq_iff_eq]; omega
      clear k1 C2 hd2 hc
      go_enter Tryd.func28, Tryd.ntmps28
      go_wp2_with (go_at_call 39; refine (C1.out _).mono ?_; rintro e w' ⟨rfl, rfl⟩)
      exact bodyPost_ret (v := .tuple #[.int .i64 0, .int .i64 0, .int .i64 0, .bool false]) (by simp [results, Tryd.results28, go_sem]) rfl ⟨rfl, rfl⟩
    · have f2 : ((E : Int) == 1) = false := by rw [beq_eq_false_iff_ne]; omega
      by_cases k2 : E = s.size
      · rw [show fmRes s 1 E d2 = .tuple #[.int .i64 ((1 : Nat) : Int), .int .i64 E, .int .i64 E, .bool true] by unfold fmRes; rw [if_neg k1, if_pos k2]]
        have f3 : ((E : Int) == (s.size : Int)) = true := by rw [beq_iff_eq]; omega
        clear k1 k2 C2 hd2 hc
        go_enter Tryd.func28, Tryd.ntmps28
        go_wp2_with (go_at_call 39; refine (C1.out _).mono ?_; rintro e w' ⟨rfl, rfl⟩)
        exact bodyPost_ret (v := .tuple #[.int .i64 1, .int .i64 E, .int .i64 E, .bool true]) (by simp [results, Tryd.results28, go_sem]) rfl ⟨rfl, rfl⟩
      · have f3 : ((E : Int) == (s.size : Int)) = false := by rw [beq_eq_false_iff_ne]; omega
        have k3 : E < s.size := by omega
        have C3 := hide (C2.out k3)
        have b2 := hd2 k3
        have gb := get_byte s E k3
        clear C2 hd2
        have no : ¬ (s.data.toList[E]? = some 46 ∧ d2 ≠ 0 ∧ E + 1 + d2 = s.size) → fmRes s 1 E d2 = .tuple #[.int .i64 0, .int .i64 0, .int .i64 0, .bool false] := by
          intro h; unfold fmRes; rw [if_neg k1, if_neg k2, if_neg h]
        have yes : (s.data.toList[E]? = some 46 ∧ d2 ≠ 0 ∧ E + 1 + d2 = s.size) → fmRes s 1 E d2 = .tuple #[.int .i64 ((1 : Nat) : Int), .int .i64 E, .int .i64 ((E : Int) + 1), .bool true] := by
          intro h; unfold fmRes; rw [if_neg k1, if_neg k2, if_pos h]
        rw [gb] at no yes
        by_cases k4 : s[E] = 46
        · have f4 : ((s[E].toNat : Int) != 46) = false := by rw [k4]; rfl
          by_cases k5 : d2 = 0
          · rw [no (by intro h; exact h.2.1 k5)]
            have f5 : ((d2 : Int) == 0) = true := by rw [beq_iff_eq]; omega
            clear k1 k2 k4 k5 no yes gb hc
            go_enter Tryd.func28, Tryd.ntmps28
            go_wp2_with fail
            refine (C1.out _).mono ?_
            rintro e w' ⟨rfl, rfl⟩
            go_wp2_with (go_at_call 39; refine (C3.out _).mono ?_; rintro e w' ⟨rfl, rfl⟩)
            exact bodyPost_ret (v := .tuple #[.int .i64 0, .int .i64 0, .int .i64 0, .bool false]) (by simp [results, Tryd.results28, go_sem]) rfl ⟨rfl, rfl⟩
          · have f5 : ((d2 : Int) == 0) = false := by rw [beq_eq_false_iff_ne]; omega
            by_cases k6 : E + 1 + d2 = s.size
            · rw [yes ⟨by rw [k4], k5, k6⟩]
              have f6 : ((E : Int) + 1 + (d2 : Int) != (s.size : Int)) = false := by simp; omega
              clear k1 k2 k4 k5 k6 no yes gb hc
              go_enter Tryd.func28, Tryd.ntmps28
              go_wp2_with fail
              refine (C1.out _).mono ?_
              rintro e w' ⟨rfl, rfl⟩
              go_wp2_with (go_at_call 39; refine (C3.out _).mono ?_; rintro e w' ⟨rfl, rfl⟩)
              exact bodyPost_ret (v := .tuple #[.int .i64 1, .int .i64 E, .int .i64 ((E : Int) + 1), .bool true]) (by simp [results, Tryd.results28, go_sem]) rfl ⟨rfl, rfl⟩
            · rw [no (by intro h; exact k6 h.2.2)]
              have f6 : ((E : Int) + 1 + (d2 : Int) != (s.size : Int)) = true := by rw [bne_iff_ne]; omega
              clear k1 k2 k4 k5 k6 no yes gb hc
              go_enter Tryd.func28, Tryd.ntmps28
              go_wp2_with fail
              refine (C1.out _).mono ?_
              rintro e w' ⟨rfl, rfl⟩
              go_wp2_with (go_at_call 39; refine (C3.out _).mono ?_; rintro e w' ⟨rfl, rfl⟩)
              exact bodyPost_ret (v := .tuple #[.int .i64 0, .int .i64 0, .int .i64 0, .bool false]) (by simp [results, Tryd.results28, go_sem]) rfl ⟨rfl, rfl⟩
        · have f4 : ((s[E].toNat : Int) != 46) = true := by
            rw [bne_iff_ne]
            intro h
            exact k4 (UInt8.toNat_inj.1 (by have : s[E].toNat = 46 := by omega
                                            rw [this]; rfl))
          rw [no (by intro h; simp at h; exact k4 h.1)]
          clear k1 k2 k4 no yes gb hc
          go_enter Tryd.func28, Tryd.ntmps28
          go_wp2_with fail
          refine (C1.out _).mono ?_
          rintro e w' ⟨rfl, rfl⟩
          go_wp2
          exact bodyPost_ret (v := .tuple #[.int .i64 0, .int .i64 0, .int .i64 0, .bool false]) (by simp [results, Tryd.results28, go_sem]) rfl ⟨rfl, rfl⟩
  · have f0 : 0 < s.size := h0
    have f1 : ((s[0].toNat : Int) == 45) = false := by
      rw [beq_eq_false_iff_ne]
      intro h
      exact hc (UInt8.toNat_inj.1 (by have : s[0].toNat = 45 := by omega
                                      rw [this]; rfl))
    rw [show ((0 : Nat) : Int) = 0 from rfl] at C1
    obtain rfl : E = d1 := by omega
    clear hE
    by_cases k1 : E = 0
    · rw [show fmRes s 0 E d2 = .tuple #[.int .i64 0, .int .i64 0, .int .i64 0, .bool false] by unfold fmRes; rw [if_pos k1]]
      have f2 : ((E : Int) == 0) = true := by rw [beq_iff_eq]; omega
      clear k1 C2 hd2 hc
      go_enter Tryd.func28, Tryd.ntmps28
      go_wp2_with (go_at_call 39; refine (C1.out _).mono ?_; rintro e w' ⟨rfl, rfl⟩)
      exact bodyPost_ret (v := .tuple #[.int .i64 0, .int .i64 0, .int .i64 0, .bool false]) (by simp [results, Tryd.results28, go_sem]) rfl ⟨rfl, rfl⟩
    · have f2 : ((E : Int) == 0) = false := by rw [beq_eq_false_iff_ne]; omega
      by_cases k2 : E = s.size
      · rw [show fmRes s 0 E d2 = .tuple #[.int .i64 ((0 : Nat) : Int), .int .i64 E, .int .i64 E, .bool true] by unfold fmRes; rw [if_neg k1, if_pos k2]]
        have f3 : ((E : Int) == (s.size : Int)) = true := by rw [beq_iff_eq]; omega
        clear k1 k2 C2 hd2 hc
        go_enter Tryd.func28, Tryd.ntmps28
        go_wp2_with (go_at_call 39; refine (C1.out _).mono ?_; rintro e w' ⟨rfl, rfl⟩)
        exact bodyPost_ret (v := .tuple #[.int .i64 0, .int .i64 E, .int .i64 E, .bool true]) (by simp [results, Tryd.results28, go_sem]) rfl ⟨rfl, rfl⟩
      · have f3 : ((E : Int) == (s.size : Int)) = false := by rw [beq_eq_false_iff_ne]; omega
        have k3 : E < s.size := by omega
        have C3 := hide (C2.out k3)
        have b2 := hd2 k3
        have gb := get_byte s E k3
        clear C2 hd2
        have no : ¬ (s.data.toList[E]? = some 46 ∧ d2 ≠ 0 ∧ E + 1 + d2 = s.size) → fmRes s 0 E d2 = .tuple #[.int .i64 0, .int .i64 0, .int .i64 0, .bool false] := by
          intro h; unfold fmRes; rw [if_neg k1, if_neg k2, if_neg h]
        have yes : (s.data.toList[E]? = some 46 ∧ d2 ≠ 0 ∧ E + 1 + d2 = s.size) → fmRes s 0 E d2 = .tuple #[.int .i64 ((0 : Nat) : Int), .int .i64 E, .int .i64 ((E : Int) + 1), .bool true] := by
          intro h; unfold fmRes; rw [if_neg k1, if_neg k2, if_pos h]
        rw [gb] at no yes
        by_cases k4 : s[E] = 46
        · have f4 : ((s[E].toNat : Int) != 46) = false := by rw [k4]; rfl
          by_cases k5 : d2 = 0
          · rw [no (by intro h; exact h.2.1 k5)]
            have f5 : ((d2 : Int) == 0) = true := by rw [beq_iff_eq]; omega
            clear k1 k2 k4 k5 no yes gb hc
            go_enter Tryd.func28, Tryd.ntmps28
            go_wp2_with fail
            refine (C1.out _).mono ?_
            rintro e w' ⟨rfl, rfl⟩
            go_wp2_with (go_at_call 39; refine (C3.out _).mono ?_; rintro e w' ⟨rfl, rfl⟩)
            exact bodyPost_ret (v := .tuple #[.int .i64 0, .int .i64 0, .int .i64 0, .bool false]) (by simp [results, Tryd.results28, go_sem]) rfl ⟨rfl, rfl⟩
          · have f5 : ((d2 : Int) == 0) = false := by rw [beq_eq_false_iff_ne]; omega
            by_cases k6 : E + 1 + d2 = s.size
            · rw [yes ⟨by rw [k4], k5, k6⟩]
              have f6 : ((E : Int) + 1 + (d2 : Int) != (s.size : Int)) = false := by simp; omega
              clear k1 k2 k4 k5 k6 no yes gb hc
              go_enter Tryd.func28, Tryd.ntmps28
              go_wp2_with fail
              refine (C1.out _).mono ?_
              rintro e w' ⟨rfl, rfl⟩
              go_wp2_with (go_at_call 39; refine (C3.out _).mono ?_; rintro e w' ⟨rfl, rfl⟩)
              exact bodyPost_ret (v := .tuple #[.int .i64 0, .int .i64 E, .int .i64 ((E : Int) + 1), .bool true]) (by simp [results, Tryd.results28, go_sem]) rfl ⟨rfl, rfl⟩
            · rw [no (by intro h; exact k6 h.2.2)]
              have f6 : ((E : Int) + 1 + (d2 : Int) != (s.size : Int)) = true := by rw [bne_iff_ne]; omega
              clear k1 k2 k4 k5 k6 no yes gb hc
              go_enter Tryd.func28, Tryd.ntmps28
              go_wp2_with fail
              refine (C1.out _).mono ?_
              rintro e w' ⟨rfl, rfl⟩
              go_wp2_with (go_at_call 39; refine (C3.out _).mono ?_; rintro e w' ⟨rfl, rfl⟩)
              exact bodyPost_ret (v := .tuple #[.int .i64 0, .int .i64 0, .int .i64 0, .bool false]) (by simp [results, Tryd.results28, go_sem]) rfl ⟨rfl, rfl⟩
        · have f4 : ((s[E].toNat : Int) != 46) = true := by
            rw [bne_iff_ne]
            intro h
            exact k4 (UInt8.toNat_inj.1 (by have : s[E].toNat = 46 := by omega
                                            rw [this]; rfl))
          rw [no (by intro h; simp at h; exact k4 h.1)]
          clear k1 k2 k4 no yes gb hc
          go_enter Tryd.func28, Tryd.ntmps28
          go_wp2_with fail
          refine (C1.out _).mono ?_
          rintro e w' ⟨rfl, rfl⟩
          go_wp2
          exact bodyPost_ret (v := .tuple #[.int .i64 0, .int .i64 0, .int .i64 0, .bool false]) (by simp [results, Tryd.results28, go_sem]) rfl ⟨rfl, rfl⟩

theorem rform_any (s : ByteArray) (w : World) (hs : s.size ≤ 9223372036854775000) :
    Calls Tryd.prog 28 #[.string s] w fun e w' => e = .returned (if fmOK s.data.toList then .tuple #[.int .i64 (fmAt s.data.toList), .int .i64 (fmEnd s.data.toList), .int .i64 (fmBehind s.data.toList), .bool true] else .tuple #[.int .i64 0, .int .i64 0, .int .i64 0, .bool false]) ∧ w' = w := by
  have hlen := size_list s
  have a1 := fmAt_le s.data.toList
  have e1 := fmEnd_le s.data.toList
  have dA : (fmAt s.data.toList = 0 ∧ s.size = 0) ∨ (∃ h : 0 < s.size, fmAt s.data.toList = 1 ∧ s[0] = 45) ∨ (∃ h : 0 < s.size, fmAt s.data.toList = 0 ∧ s[0] ≠ 45) := by
    unfold fmAt
    by_cases h : 0 < s.size
    · have := get_byte s 0 h
      rw [List.head?_eq_getElem?, this]
      by_cases hc : s[0] = 45
      · exact Or.inr (Or.inl ⟨h, by rw [hc]; simp, hc⟩)
      · exact Or.inr (Or.inr ⟨h, by simp [hc], hc⟩)
    · have : s.data.toList = [] := List.eq_nil_of_length_eq_zero (by omega)
      exact Or.inl ⟨by rw [this]; simp, by omega⟩
  have hd2 : fmEnd s.data.toList < s.size → fmEnd s.data.toList + 1 + dgc (s.data.toList.drop (fmEnd s.data.toList + 1)) ≤ s.size := by
    intro h
    have := dgc_le (s.data.toList.drop (fmEnd s.data.toList + 1))
    rw [List.length_drop, hlen] at this
    omega
  have c2 : fmEnd s.data.toList < s.size → ∀ w, Calls Tryd.prog 39 #[.string s, .int .i64 ((fmEnd s.data.toList : Int) + 1)] w fun e w' => e = .returned (.int .i64 (dgc (s.data.toList.drop (fmEnd s.data.toList + 1)))) ∧ w' = w := by
    intro h w
    have := rdigits_any s (fmEnd s.data.toList + 1) w (by omega) (by omega)
    rwa [show ((fmEnd s.data.toList + 1 : Nat) : Int) = (fmEnd s.data.toList : Int) + 1 by omega] at this
  refine (form_walk s (fmAt s.data.toList) (fmEnd s.data.toList) _ _ w hs rfl (by omega) (fun w => rdigits_any s _ w (by omega) (by omega)) c2 hd2 dA).mono ?_
  rintro e w' ⟨rfl, hw⟩
  refine ⟨congrArg Ending.returned ?_, hw⟩
  unfold fmRes fmOK fmBehind
  rw [hlen]
  generalize fmEnd s.data.toList = E
  generalize fmAt s.data.toList = A
  generalize dgc (s.data.toList.drop (E + 1)) = d2
  by_cases k1 : E = A
  · simp [k1]
  · by_cases k2 : E = s.size
    · subst k2
      simp [k1]
    · by_cases k3 : s.data.toList[E]? = some 46 ∧ d2 ≠ 0 ∧ E + 1 + d2 = s.size
      · rw [if_neg k1, if_neg k2, if_pos k3, if_neg k2, if_pos]
        · rfl
        · simp only [Bool.and_eq_true, Bool.or_eq_true, decide_eq_true_eq]
          exact ⟨k1, Or.inr ⟨⟨k3.1, k3.2.1⟩, k3.2.2⟩⟩
      · rw [if_neg k1, if_neg k2, if_neg k3, if_neg]
        intro h
        simp only [Bool.and_eq_true, Bool.or_eq_true, decide_eq_true_eq] at h
        rcases h.2 with h' | h'
        · exact k2 h'
        · exact k3 ⟨h'.1.1, h'.1.2, h'.2⟩
end Go.Proofs.YtdmfmiejjghfnaaDoor
