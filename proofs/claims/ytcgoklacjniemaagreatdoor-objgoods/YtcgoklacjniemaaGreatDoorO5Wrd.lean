/-
  What the landed reader's takeWord, takeRefEnd and word answer (word: at the text of a reference).
-/
import Derived.Test.YtcgoklacjniemaaGreatDoorO5Rd
import Derived.Test.YtcgoklacjniemaaGreatDoorO5RGet
namespace Go.Proofs.YtcgoklacjniemaaGreatDoor
open Go.RowKit Go.Deep

theorem hasP_len {l p : List UInt8} (h : Lib.hasPrefix l p = true) : p.length ≤ l.length := by
  unfold Lib.hasPrefix at h
  rw [List.isPrefixOf_iff_prefix] at h
  exact h.length_le
def twV (l p : List UInt8) (a : Nat) : Bool := Lib.hasPrefix (l.drop a) p && endV l (a + p.length)
theorem takeWord_any (b : Nat) (s p : ByteArray) (a : Nat) (l : Int) (w : World) (h : RAt w b s a l) (hs : s.size ≤ 16777216) (ha : a ≤ s.size) (hp : p.size ≤ 16) :
    Calls Tryz.prog 102 #[.pointer (some ⟨b, 0, none⟩), .string p] w fun e w' => e = .returned (.bool (twV s.data.toList p.data.toList a)) ∧ But b w w' ∧ ∃ a', a' ≤ s.size ∧ RAt w' b s a' l ∧ (twV s.data.toList p.data.toList a = true → a' = a + p.size) := by
  cases ht : Lib.hasPrefix (s.data.toList.drop a) p.data.toList
  · have C := hide (take_hit b s p a l w h hs ha hp _ ht)
    have e : twV s.data.toList p.data.toList a = false := by unfold twV; rw [ht]; rfl
    rw [e]
    clear h ht e
    go_enter Tryz.func102, Tryz.ntmps102
    go_wp2_with (go_at_call 51; refine C.out.mono ?_; rintro e w1 ⟨rfl, h1, h2⟩; have H1 := hide h1; have H2 := hide h2; clear h1 h2)
    go_ret
    exact ⟨rfl, H1.out, a, ha, H2.out, fun h => by cases h⟩
  · have hl := hasP_len ht
    rw [List.length_drop, ← Lib.size_eq, ← Lib.size_eq] at hl
    have ha' : a + p.size ≤ s.size := by
      rcases Nat.eq_zero_or_pos p.size with h | h
      · omega
      · omega
    have C := hide (take_hit b s p a l w h hs ha hp _ ht)
    have CE := hide (fun w' (h' : RAt w' b s (a + p.size) l) => atEnd_any b s (a + p.size) l w' h' hs ha')
    have e : twV s.data.toList p.data.toList a = endV s.data.toList (a + p.size) := by unfold twV; rw [ht, Bool.true_and, ← Lib.size_eq]
    rw [e]
    generalize endV s.data.toList (a + p.size) = E at CE
    clear h ht e hl
    go_enter Tryz.func102, Tryz.ntmps102
    go_wp2_with (first | (go_at_call 51; refine C.out.mono ?_; rintro e w1 ⟨rfl, h1, h2⟩; have H1 := hide h1; have H2 := hide h2; clear h1 h2) | (go_at_call 83; refine (CE.out _ H2.out).mono ?_; rintro e w2 ⟨rfl, n, rfl⟩))
    go_ret
    exact ⟨by simp, H1.out.drewN _, a + p.size, ha', RAt.drewN H2.out _, fun _ => rfl⟩
theorem blanks_le (s : ByteArray) (a : Nat) (h : a ≤ s.size) : blanksV s.data.toList a ≤ s.size := by
  unfold blanksV
  have := run_le isBl (s.data.toList.drop a)
  rw [List.length_drop, ← Lib.size_eq] at this
  omega
theorem tw_le (s p : ByteArray) (a : Nat) (hp : 0 < p.size) (h : twV s.data.toList p.data.toList a = true) : a + p.size ≤ s.size := by
  unfold twV at h
  have := hasP_len (Bool.and_eq_true_iff.1 h).1
  rw [List.length_drop, ← Lib.size_eq, ← Lib.size_eq] at this
  omega
/- the end of what makes a reference of the integer ahead of it -/
def refV (l : List UInt8) (a : Nat) : Option Nat :=
  if twV l [48] (blanksV l a) = true then (if twV l [82] (blanksV l (blanksV l a + 1)) = true then some (blanksV l (blanksV l a + 1) + 1) else none) else none
set_option maxRecDepth 8000 in
set_option maxHeartbeats 4000000 in
theorem takeRefEnd_any (b : Nat) (s : ByteArray) (a : Nat) (l : Int) (w : World) (h : RAt w b s a l) (hs : s.size ≤ 16777216) (ha : a ≤ s.size) :
    Calls Tryz.prog 86 #[.pointer (some ⟨b, 0, none⟩)] w fun e w' => e = .returned (.bool (refV s.data.toList a).isSome) ∧ But b w w' ∧ RAt w' b s ((refV s.data.toList a).getD a) l := by
  obtain ⟨⟨c0, c1, c2⟩, z0, z1, z2⟩ := h.three
  have h1 := blanks_le s a ha
  have CP := hide (pass_any b s a l w h hs ha)
  have CT := hide (fun w' (h' : RAt w' b s (blanksV s.data.toList a) l) => takeWord_any b s ⟨#[48]⟩ _ l w' h' hs h1 (by decide))
  have hs' : (s.size : Int) ≤ 16777216 := by omega
  have ha0 : (0 : Int) ≤ (a : Int) := by omega
  obtain ⟨R, hR⟩ : ∃ R, refV s.data.toList a = R := ⟨_, rfl⟩
  rw [hR]
  unfold refV at hR
  have e48 : (⟨#[48]⟩ : ByteArray).data.toList = [48] := rfl
  have e82 : (⟨#[82]⟩ : ByteArray).data.toList = [82] := rfl
  rw [e48] at CT
  cases ht : twV s.data.toList [48] (blanksV s.data.toList a)
  · rw [ht, if_neg (by simp)] at hR
    subst hR
    rw [ht] at CT
    clear ht h h1
    go_enter Tryz.func86, Tryz.ntmps86
    go_wp2_with (first | (go_at_call 50; refine CP.out.mono ?_; rintro e w1 ⟨rfl, h1, h2⟩; have H1 := hide h1; have H2 := hide h2; clear h1 h2) | (go_at_call 102; refine (CT.out _ H2.out).mono ?_; rintro e w2 ⟨rfl, h3, a', h4, h5, h6⟩; have H3 := hide h3; have H5 := hide h5; obtain ⟨⟨d0, d1, d2⟩, y0, y1, y2⟩ := h5.three; clear h3 h4 h5 h6))
    go_ret
    exact ⟨rfl, (H1.out.trans H3.out).trans (But.setCell b _ 1 _), H5.out.at1 a⟩
  rw [ht, if_pos rfl] at hR
  have h2 : blanksV s.data.toList a + 1 ≤ s.size := tw_le s ⟨#[48]⟩ _ (by decide) ht
  rw [ht] at CT
  have CP2 := hide (fun w' (h' : RAt w' b s (blanksV s.data.toList a + 1) l) => pass_any b s _ l w' h' hs h2)
  have h3 := blanks_le s _ h2
  have CT2 := hide (fun w' (h' : RAt w' b s (blanksV s.data.toList (blanksV s.data.toList a + 1)) l) => takeWord_any b s ⟨#[82]⟩ _ l w' h' hs h3 (by decide))
  rw [e82] at CT2
  cases ht2 : twV s.data.toList [82] (blanksV s.data.toList (blanksV s.data.toList a + 1))
  · rw [ht2, if_neg (by simp)] at hR
    subst hR
    rw [ht2] at CT2
    clear ht ht2 h h1 h2 h3
    go_enter Tryz.func86, Tryz.ntmps86
    go_wp2_with fail
    refine CP.out.mono ?_
    rintro e w1 ⟨rfl, h1, h2⟩
    have H1 := hide h1
    have H2 := hide h2
    clear h1 h2
    go_wp2_with fail
    refine (CT.out _ H2.out).mono ?_
    rintro e w2 ⟨rfl, h3, a', h4, h5, h6⟩
    have h7 := h6 (by simp)
    subst h7
    have H3 := hide h3
    have H5 := hide h5
    clear h3 h4 h5 h6
    go_wp2_with fail
    refine (CP2.out _ H5.out).mono ?_
    rintro e w3 ⟨rfl, h1, h2⟩
    have H6 := hide h1
    have H7 := hide h2
    clear h1 h2
    go_wp2_with fail
    refine (CT2.out _ H7.out).mono ?_
    rintro e w4 ⟨rfl, h3, a'', h4, h5, h6⟩
    have H8 := hide h3
    have H9 := hide h5
    obtain ⟨⟨d0, d1, d2⟩, y0, y1, y2⟩ := h5.three
    clear h3 h4 h5 h6
    go_wp2_with fail
    go_ret
    exact ⟨rfl, (((H1.out.trans H3.out).trans H6.out).trans H8.out).trans (But.setCell b _ 1 _), H9.out.at1 a⟩
  · rw [ht2, if_pos rfl] at hR
    subst hR
    rw [ht2] at CT2
    clear ht ht2 h h1 h2 h3
    go_enter Tryz.func86, Tryz.ntmps86
    go_wp2_with fail
    refine CP.out.mono ?_
    rintro e w1 ⟨rfl, h1, h2⟩
    have H1 := hide h1
    have H2 := hide h2
    clear h1 h2
    go_wp2_with fail
    refine (CT.out _ H2.out).mono ?_
    rintro e w2 ⟨rfl, h3, a', h4, h5, h6⟩
    have h7 := h6 (by simp)
    subst h7
    have H3 := hide h3
    have H5 := hide h5
    clear h3 h4 h5 h6
    go_wp2_with fail
    refine (CP2.out _ H5.out).mono ?_
    rintro e w3 ⟨rfl, h1, h2⟩
    have H6 := hide h1
    have H7 := hide h2
    clear h1 h2
    go_wp2_with fail
    refine (CT2.out _ H7.out).mono ?_
    rintro e w4 ⟨rfl, h3, a'', h4, h5, h6⟩
    have h7 := h6 (by simp)
    subst h7
    have H8 := hide h3
    have H9 := hide h5
    clear h3 h4 h5 h6
    go_wp2_with fail
    go_ret
    exact ⟨rfl, ((H1.out.trans H3.out).trans H6.out).trans H8.out, H9.out⟩
end Go.Proofs.YtcgoklacjniemaaGreatDoor
