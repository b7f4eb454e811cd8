/-
  The reference's text.
-/
import Derived.Test.YtpmdekhjodhdmaaDoorK17Re
namespace Go.Proofs.YtpmdekhjodhdmaaDoor.K17
open Go.RowKit Go.Proofs.YtpmdekhjodhdmaaDoor
open Go.Lib
set_option linter.unusedVariables false
set_option linter.unusedSimpArgs false
set_option maxRecDepth 100000

/- what an entity holds has no sign that ends a text or a value -/
theorem entW_no {w : List UInt8} {c : Nat} (h : entW w = some c) : (60 : UInt8) ∉ w ∧ (34 : UInt8) ∉ w := by
  unfold entW at h
  split at h
  · rename_i h1; rw [h1]; decide
  · split at h
    · rename_i h1; rw [h1]; decide
    · split at h
      · rename_i h1; rw [h1]; decide
      · split at h
        · rename_i h1; rw [h1]; decide
        · split at h
          · rename_i h35
            unfold numW at h
            split at h
            · simp at h
            · rename_i hn
              simp only [not_or, Bool.not_eq_false] at hn
              have hall := hn.2.2.2.1
              cases w with
              | nil => simp
              | cons b r =>
                have hb : b = 35 := by simpa using h35
                subst hb
                have hr : ∀ x ∈ r, dgB x = true := fun x hx => List.all_eq_true.1 hall x (by simpa using hx)
                constructor
                · intro hm
                  rcases List.mem_cons.1 hm with h2 | h2
                  · exact absurd h2 (by decide)
                  · exact absurd (hr _ h2) (by decide)
                · intro hm
                  rcases List.mem_cons.1 hm with h2 | h2
                  · exact absurd h2 (by decide)
                  · exact absurd (hr _ h2) (by decide)
          · simp at h
theorem upto_pre {d b : UInt8} : ∀ (l : List UInt8), d ∉ upto b l → b ∈ l → upto b (upto d l) = upto b l ∧ (b ≠ d → b ∈ upto d l)
  | [], _, h => by simp at h
  | c :: l, h, hm => by
    by_cases hc : c = b
    · subst hc
      refine ⟨?_, fun hne => ?_⟩
      · unfold upto
        rw [List.takeWhile_cons, List.takeWhile_cons]
        by_cases hd : c = d
        · rw [if_neg (by simpa using hd), if_neg (by simp)]; rfl
        · rw [if_pos (by simpa using hd), if_neg (by simp), List.takeWhile_cons, if_neg (by simp)]
      · unfold upto
        rw [List.takeWhile_cons, if_pos (by simpa using hne)]
        simp
    · have hm2 : b ∈ l := by
        rcases List.mem_cons.1 hm with h2 | h2
        · exact absurd h2.symm hc
        · exact h2
      have hu : upto b (c :: l) = c :: upto b l := by unfold upto; rw [List.takeWhile_cons, if_pos (by simpa using hc)]
      rw [hu] at h
      simp only [List.mem_cons, not_or] at h
      obtain ⟨i1, i2⟩ := upto_pre l h.2 hm2
      have hv : upto d (c :: l) = c :: upto d l := by unfold upto; rw [List.takeWhile_cons, if_pos (by simpa using Ne.symm h.1)]
      rw [hv, hu]
      refine ⟨?_, fun hne => List.mem_cons_of_mem _ (i2 hne)⟩
      have : upto b (c :: upto d l) = c :: upto b (upto d l) := by unfold upto; rw [List.takeWhile_cons, if_pos (by simpa using hc)]
      rw [this, i1]
/- an entity is what it is, whether the text is cut off at a sign or not -/
theorem ent_cut (d : UInt8) (hd : d = 60 ∨ d = 34) (r : List UInt8) : ent (38 :: upto d r) = ent (38 :: r) := by
  have hne : (59 : UInt8) ≠ d := by rcases hd with rfl | rfl <;> decide
  have hno : ∀ {w : List UInt8} {c : Nat}, entW w = some c → d ∉ w := fun h => by
    rcases hd with rfl | rfl
    · exact (entW_no h).1
    · exact (entW_no h).2
  unfold ent
  rw [show (38 :: upto d r).drop 1 = upto d r from rfl, show (38 :: r).drop 1 = r from rfl]
  by_cases hm : (59 : UInt8) ∈ r
  · by_cases hdw : d ∈ upto 59 r
    · /- cut off ahead of ; : none both ways -/
      have h1 : (59 : UInt8) ∉ upto d r := fun h => by
        have hlt := upto_lt hm
        have e1 := upto_get hm
        have e2 := upto_get h
        have e3 := upto_lt h
        have hdr : d ∈ r := by
          have := upto_take 59 r
          rw [← this] at hdw
          exact List.mem_of_mem_take hdw
        have e4 := upto_lt hdr
        -- the place of ; is behind d's place
        have e5 : (upto d r).length < (upto 59 r).length := by
          have hi : (upto 59 r).length ≤ r.length := upto_le _ _
          rcases Nat.lt_or_ge (upto d r).length (upto 59 r).length with h | h
          · exact h
          · exfalso
            have : upto 59 r = (upto d r).take (upto 59 r).length := by
              rw [← upto_take d r, List.take_take, Nat.min_eq_left h, upto_take]
            rw [this] at hdw
            exact upto_not d r (List.mem_of_mem_take hdw)
        have e6 : r[(upto 59 (upto d r)).length]? = some 59 := by
          rw [← e2]
          have : (upto d r)[(upto 59 (upto d r)).length]? = r[(upto 59 (upto d r)).length]? := by
            rw [← upto_take d r, List.getElem?_take_of_lt]
            rw [upto_take]; exact e3
          exact this.symm
        have e7 : (upto 59 r)[(upto 59 (upto d r)).length]? = some 59 := by
          rw [← upto_take 59 r, List.getElem?_take_of_lt (by omega)]
          exact e6
        exact upto_not 59 r (List.mem_of_getElem? e7)
      rw [if_pos (by rw [upto_all h1])]
      have hlt := upto_lt hm
      rw [if_neg (by omega)]
      cases he : entW (upto 59 r) with
      | none => rfl
      | some c => exact absurd hdw (hno he)
    · obtain ⟨i1, i2⟩ := upto_pre r hdw hm
      have i3 := i2 hne
      rw [i1]
      have h1 := upto_lt i3
      rw [i1] at h1
      have h2 := upto_lt hm
      rw [if_neg (by omega), if_neg (by omega)]
  · have h1 : (59 : UInt8) ∉ upto d r := fun h => hm (by
      rw [← upto_take d r] at h
      exact List.mem_of_mem_take h)
    rw [if_pos (by rw [upto_all h1]), if_pos (by rw [upto_all hm])]
end Go.Proofs.YtpmdekhjodhdmaaDoor.K17
