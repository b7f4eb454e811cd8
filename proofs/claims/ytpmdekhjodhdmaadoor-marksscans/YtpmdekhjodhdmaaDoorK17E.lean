/-
  What entity and plain of marks answer: a text with what its entities say, or the place of the first fault.
-/
import Derived.Test.YtpmdekhjodhdmaaDoorK17N
import Derived.Test.YtpmdekhjodhdmaaDoorK17W
import Derived.Test.YtpmdekhjodhdmaaDoorU4Dec
namespace Go.Proofs.YtpmdekhjodhdmaaDoor.K17
open Go.RowKit Go.Proofs.YtpmdekhjodhdmaaDoor
open Go.Lib
set_option linter.unusedVariables false
set_option linter.unusedSimpArgs false
set_option maxRecDepth 8000

theorem beq_l (s : ByteArray) (l : List UInt8) : (s.toList == l) = decide (s.data.toList = l) := by
  rw [ByteArray.toList_eq]; rw [Bool.eq_iff_iff]; simp
theorem cp_any (s : ByteArray) (c : UInt8) (w : World) : Calls Tryd.prog 72 #[.string s, .string ⟨#[c]⟩] w fun e w' => e = .returned (.tuple #[.string ⟨(if s.data.toList.getD 0 0 = c ∧ s.data.toList ≠ [] then s.data.toList.drop 1 else s.data.toList).toArray⟩, .bool (decide (s.data.toList.getD 0 0 = c ∧ s.data.toList ≠ []))]) ∧ w' = w := by
  have h := Any.strings_CutPrefix lays103 s ⟨#[c]⟩ w
  have e2 : Lib.hasPrefix s.data.toList [c] = decide (s.data.toList.getD 0 0 = c ∧ s.data.toList ≠ []) := by
    unfold Lib.hasPrefix
    cases s.data.toList with
    | nil => simp
    | cons b r =>
      by_cases hbc : b = c
      · subst hbc; simp [List.isPrefixOf]
      · have h1 : (c == b) = false := by rw [beq_eq_false_iff_ne]; exact Ne.symm hbc
        simp only [List.isPrefixOf, h1, Bool.false_and]
        rw [decide_eq_false]
        rintro ⟨h, _⟩
        exact hbc h
  have e3 : Lib.trimPrefix s.data.toList [c] = if s.data.toList.getD 0 0 = c ∧ s.data.toList ≠ [] then s.data.toList.drop 1 else s.data.toList := by
    unfold Lib.trimPrefix
    rw [e2]
    simp
  change Calls Tryd.prog _ _ _ (fun e w' => e = .returned (.tuple #[.string ⟨(Lib.trimPrefix s.data.toList [c]).toArray⟩, .bool (Lib.hasPrefix s.data.toList [c])]) ∧ w' = w) at h
  rw [e2, e3] at h
  exact h
theorem mk_l (l : List UInt8) : (⟨l.toArray⟩ : ByteArray).data.toList = l := rfl
theorem size_m (l : List UInt8) : (⟨l.toArray⟩ : ByteArray).size = l.length := by rw [Lib.size_eq]
theorem entity_any (s : ByteArray) (w : World) (hs : s.size ≤ 9223372036854775000) : Calls Tryd.prog 62 #[.string s] w fun e w' => e = .returned (nuR (entW s.data.toList)) ∧ w' = w := by
  have b1 := beq_l s [108, 116]
  have b2 := beq_l s [103, 116]
  have b3 := beq_l s [97, 109, 112]
  have b4 := beq_l s [113, 117, 111, 116]
  have CP := hide (cp_any s 35)
  have hdl : (s.data.toList.drop 1).length ≤ 9223372036854775000 := by rw [List.length_drop, size_l]; omega
  have CN := hide (fun w => numbered_any ⟨(s.data.toList.drop 1).toArray⟩ w (by rw [size_m]; exact hdl))
  obtain ⟨R, hR⟩ : ∃ R, entW s.data.toList = R := ⟨_, rfl⟩
  rw [hR]
  unfold entW at hR
  generalize s.data.toList = l at *
  by_cases h1 : l = [108, 116]
  · rw [decide_eq_true h1] at b1; rw [if_pos h1] at hR; subst hR
    clear h1 CP CN hdl b2 b3 b4
    go_enter Tryd.func62, Tryd.ntmps62
    go_wp2
    go_ret2
    exact ⟨rfl, rfl⟩
  rw [if_neg h1] at hR
  rw [decide_eq_false h1] at b1
  by_cases h2 : l = [103, 116]
  · rw [decide_eq_true h2] at b2; rw [if_pos h2] at hR; subst hR
    clear h1 h2 CP CN hdl b3 b4
    go_enter Tryd.func62, Tryd.ntmps62
    go_wp2
    go_ret2
    exact ⟨rfl, rfl⟩
  rw [if_neg h2] at hR
  rw [decide_eq_false h2] at b2
  by_cases h3 : l = [97, 109, 112]
  · rw [decide_eq_true h3] at b3; rw [if_pos h3] at hR; subst hR
    clear h1 h2 h3 CP CN hdl b4
    go_enter Tryd.func62, Tryd.ntmps62
    go_wp2
    go_ret2
    exact ⟨rfl, rfl⟩
  rw [if_neg h3] at hR
  rw [decide_eq_false h3] at b3
  by_cases h4 : l = [113, 117, 111, 116]
  · rw [decide_eq_true h4] at b4; rw [if_pos h4] at hR; subst hR
    clear h1 h2 h3 h4 CP CN hdl
    go_enter Tryd.func62, Tryd.ntmps62
    go_wp2
    go_ret2
    exact ⟨rfl, rfl⟩
  rw [if_neg h4] at hR
  rw [decide_eq_false h4] at b4
  by_cases h5 : l.getD 0 0 = 35
  · have hne : l ≠ [] := by rintro rfl; exact absurd h5 (by decide)
    rw [if_pos h5] at hR
    rw [if_pos ⟨h5, hne⟩, decide_eq_true ⟨h5, hne⟩] at CP
    simp only [hR] at CN
    generalize (⟨(l.drop 1).toArray⟩ : ByteArray) = t at CP CN
    clear h1 h2 h3 h4 h5 hne hdl hR
    go_enter Tryd.func62, Tryd.ntmps62
    go_wp2_with (first | (go_at_call 72; refine (CP.out _).mono ?_; rintro e w1 ⟨rfl, rfl⟩) | (go_at_call 78; refine (CN.out _).mono ?_; rintro e w1 ⟨rfl, rfl⟩; unfold nuR))
    go_ret2
    exact ⟨rfl, rfl⟩
  · rw [if_neg h5] at hR
    rw [if_neg (fun h => h5 h.1), decide_eq_false (fun h => h5 h.1)] at CP
    subst hR
    clear h1 h2 h3 h4 h5 hdl CN
    go_enter Tryd.func62, Tryd.ntmps62
    go_wp2_with (first | (go_at_call 72; refine (CP.out _).mono ?_; rintro e w1 ⟨rfl, rfl⟩))
    go_ret2
    exact ⟨rfl, rfl⟩
/- what a range over a string comes to -/
theorem dec_at (s : ByteArray) (k : Nat) (h : k < s.size) : Utf8.decode s k = dN (s.data.toList.drop k) := by
  have e : ∀ j, (s.data.toList.drop k).getD j 0 = s.get! (k + j) := fun j => by
    rw [get_byte!, List.getD_eq_getElem?_getD, List.getD_eq_getElem?_getD, List.getElem?_drop]
  unfold dN
  rw [decode_at, e, e, e, e, List.length_drop, size_l]
  rfl
def PlR (w : World) (R : Except Nat (List UInt8)) (e : Ending) (w' : World) : Prop := Below w.heap.size w w' ∧ match R with
  | .ok t => e = .returned (.tuple #[.string ⟨t.toArray⟩, .int .i64 0, .bool true])
  | .error p => e = .returned (.tuple #[.string ⟨#[]⟩, .int .i64 (p : Int), .bool false])
/- within an entity: no ; yet -/
def inE (l : List UInt8) (o pos : Nat) : Prop := ∀ j, o < j → j < pos → l[j]? ≠ some 59
theorem upto_end : ∀ {l : List UInt8} (h : ∀ j : Nat, l[j]? ≠ some 59), upto 59 l = l
  | [], _ => rfl
  | b :: l, h => by
    have h0 := h 0
    simp at h0
    have ih := upto_end (l := l) (fun j => by have := h (j + 1); simpa using this)
    unfold upto at *
    rw [List.takeWhile_cons, if_pos (by simpa using h0), ih]
theorem upto_at {l : List UInt8} {k : Nat} (h : ∀ j : Nat, j < k → l[j]? ≠ some 59) (hk : l[k]? = some 59) : upto 59 l = l.take k := by
  induction l generalizing k with
  | nil => simp at hk
  | cons b l ih =>
    unfold upto at *
    cases k with
    | zero =>
      simp at hk
      subst hk
      rfl
    | succ k =>
      have h0 := h 0 (by omega)
      simp at h0
      rw [List.takeWhile_cons, if_pos (by simpa using h0), List.take_succ_cons, ih (k := k) (fun j hj => by have := h (j + 1) (by omega); simpa using this) (by simpa using hk)]
theorem ent_none {l : List UInt8} {o : Nat} (h : inE l o l.length) : ent (l.drop o) = none := by
  have hu : upto 59 ((l.drop o).drop 1) = (l.drop o).drop 1 := upto_end fun j => by
    rw [List.drop_drop, List.getElem?_drop]
    intro hj
    have := (List.getElem?_eq_some_iff.1 hj).1
    exact h (o + 1 + j) (by omega) this hj
  unfold ent
  rw [hu, if_pos rfl]
theorem ent_at {l : List UInt8} {o pos : Nat} (h : inE l o pos) (ho : o < pos) (hp : l[pos]? = some 59) : ent (l.drop o) = (entW ((l.drop (o + 1)).take (pos - (o + 1)))).map fun c => (c, pos + 1 - o) := by
  have hlt := (List.getElem?_eq_some_iff.1 hp).1
  have hu : upto 59 ((l.drop o).drop 1) = (l.drop (o + 1)).take (pos - (o + 1)) := by
    rw [List.drop_drop]
    refine upto_at (fun j hj => ?_) ?_
    · rw [List.getElem?_drop]; exact h (o + 1 + j) (by omega) (by omega)
    · rw [List.getElem?_drop, show o + 1 + (pos - (o + 1)) = pos by omega]; exact hp
  unfold ent
  rw [hu]
  have hl : ((l.drop (o + 1)).take (pos - (o + 1))).length = pos - (o + 1) := by rw [List.length_take, List.length_drop]; omega
  rw [if_neg (by rw [hl, List.drop_drop, List.length_drop]; omega), hl]
  congr 1
  funext c
  congr 1
  omega
theorem drop0 (l : List UInt8) (k : Nat) (h : k < l.length) : (l.drop k).getD 0 0 = l[k] ∧ l[k]? = some l[k] := by
  rw [List.getD_eq_getElem?_getD, List.getElem?_drop, Nat.add_zero, List.getElem?_eq_getElem h]
  exact ⟨rfl, rfl⟩
/- one code point on: where the next one begins, and that no byte of it is below 128 unless it is the code point -/
theorem vt_next {l : List UInt8} {k : Nat} (h : Vt (l.drop k)) (hk : k < l.length) : ∃ c n, dN (l.drop k) = (c, n) ∧ isP (c : Int) = true ∧ 1 ≤ n ∧ n ≤ 4 ∧ k + n ≤ l.length ∧ Vt (l.drop (k + n)) ∧ (l.drop k).take n = e8 c ∧ (∀ b : Nat, b < 128 → ((c = b ↔ l[k]? = some (bt b)) ∧ (c ≠ b → ∀ j, k ≤ j → j < k + n → l[j]? ≠ some (bt b)))) := by
  obtain ⟨c, r, he, hc, hr, hd⟩ := h.step (by intro h0; have := congrArg List.length h0; rw [List.length_drop] at this; simp at this; omega)
  have hlen := congrArg List.length he
  rw [List.length_drop, List.length_append] at hlen
  have hp := isP_t.1 hc
  have hn := code8.len c
  have ht : (l.drop k).take (e8 c).length = e8 c := by rw [he, List.take_left']; rfl
  have hdr : l.drop (k + (e8 c).length) = r := by rw [← List.drop_drop, he, List.drop_left']; rfl
  have hat : ∀ j, j < (e8 c).length → l[k + j]? = (e8 c)[j]? := fun j hj => by
    rw [← List.getElem?_drop, he, List.getElem?_append_left hj]
  refine ⟨c, (e8 c).length, hd, hc, hn.1, hn.2, by omega, by rw [hdr]; exact hr, ht, fun b hb => ?_⟩
  have h0 := hat 0 (by omega)
  rw [Nat.add_zero] at h0
  by_cases h1 : c < 128
  · rw [e8_low h1] at h0 hat ⊢
    simp only [List.getElem?_cons_zero] at h0
    have key : c = b ↔ l[k]? = some (bt b) := by
      rw [h0]
      constructor
      · rintro rfl; rfl
      · intro h
        injection h with h
        rw [← bt_nat c (by omega), h, bt_nat b (by omega)]
    refine ⟨key, fun hne j hj1 hj2 => ?_⟩
    simp only [List.length_singleton] at hj2
    obtain rfl : j = k := by omega
    intro h
    exact hne (key.2 h)
  · have hh := e8_high (c := c) (by omega) (by omega)
    have hall : ∀ j, j < (e8 c).length → l[k + j]? ≠ some (bt b) := fun j hj => by
      rw [hat j hj, List.getElem?_eq_getElem hj]
      intro h
      injection h with h
      have := hh _ (List.getElem_mem hj)
      rw [h, bt_nat b (by omega)] at this
      omega
    refine ⟨⟨fun h => by omega, fun h => absurd h (hall 0 (by omega))⟩, fun _ j hj1 hj2 => ?_⟩
    obtain ⟨i, rfl⟩ : ∃ i, j = k + i := ⟨j - k, by omega⟩
    exact hall i (by omega)
end Go.Proofs.YtpmdekhjodhdmaaDoor.K17
