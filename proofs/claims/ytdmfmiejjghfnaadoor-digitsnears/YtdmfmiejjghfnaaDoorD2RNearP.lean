/-
  What the reference's Near (chapter 2) answers of any text.
-/
import Derived.Test.YtdmfmiejjghfnaaDoorD2RNear
import Derived.Test.YtdmfmiejjghfnaaDoorD2Back
namespace Go.Proofs.YtdmfmiejjghfnaaDoor
open Go.RowKit Go.Lib

theorem dgc_all (l : List UInt8) : (l.take (dgc l)).all isDig = true := by
  induction l with
  | nil => rfl
  | cons c l ih =>
    unfold dgc
    by_cases h : isDig c = true
    · rw [if_pos h, Nat.add_comm, List.take_succ_cons, List.all_cons, h, ih]; rfl
    · rw [if_neg h]; rfl
theorem dgc_next (l : List UInt8) (c : UInt8) (r : List UInt8) (h : l.drop (dgc l) = c :: r) : isDig c = false := by
  induction l with
  | nil => simp [dgc] at h
  | cons a l ih =>
    unfold dgc at h
    by_cases ha : isDig a = true
    · rw [if_pos ha, Nat.add_comm, List.drop_succ_cons] at h
      exact ih h
    · rw [if_neg ha, List.drop_zero] at h
      injection h with h1 h2
      rw [← h1]
      simpa using ha
theorem dgc_full (l : List UInt8) (h : l.all isDig = true) : dgc l = l.length := by
  induction l with
  | nil => rfl
  | cons c l ih =>
    simp only [List.all_cons, Bool.and_eq_true] at h
    unfold dgc
    rw [if_pos h.1, ih h.2, List.length_cons, Nat.add_comm]
theorem digs_dgc (l : List UInt8) : digs l = (decide (dgc l ≠ 0) && decide (dgc l = l.length)) := by
  unfold digs
  by_cases h : l.all isDig = true
  · have hf := dgc_full l h
    rw [h, hf]
    cases l <;> simp
  · have : dgc l ≠ l.length := by
      intro e
      have := dgc_all l
      rw [e, List.take_length] at this
      exact h this
    rw [decide_eq_false this]
    simp [h]
theorem neg_at (l : List UInt8) : fmAt l = (if negP l then 1 else 0) ∧ l.drop (fmAt l) = numP l := by
  cases l with
  | nil => exact ⟨rfl, rfl⟩
  | cons c r =>
    by_cases h : c = 45
    · subst h
      have h1 : negP (45 :: r) = true := by simp [negP, hasPrefix, List.isPrefixOf]
      have h2 : fmAt (45 :: r) = 1 := by simp [fmAt]
      refine ⟨by rw [h1, h2]; rfl, ?_⟩
      rw [h2]
      unfold numP trimPrefix
      rw [show hasPrefix (45 :: r) [45] = true from h1]
      rfl
    · have h1 : negP (c :: r) = false := by simp [negP, hasPrefix, List.isPrefixOf, Ne.symm h]
      have h2 : fmAt (c :: r) = 0 := by simp [fmAt, h]
      refine ⟨by rw [h1, h2]; rfl, ?_⟩
      rw [h2]
      unfold numP trimPrefix
      rw [show hasPrefix (c :: r) [45] = false from h1]
      rfl
theorem form_ok (l : List UInt8) : fmOK l = okP l ∧ (okP l = true → (l.take (fmEnd l)).drop (fmAt l) = whP l ∧ l.drop (fmBehind l) = frP l) := by
  obtain ⟨hA, hn⟩ := neg_at l
  have hAle := fmAt_le l
  have hE : fmEnd l = fmAt l + dgc (numP l) := by unfold fmEnd; rw [hn]
  have hnl : (numP l).length = l.length - fmAt l := by rw [← hn, List.length_drop]
  have htake : (l.take (fmEnd l)).drop (fmAt l) = (numP l).take (dgc (numP l)) := by
    rw [← hn, List.drop_take]
    congr 1
    rw [hE, hn]
    omega
  have hdropE : ∀ m, l.drop (fmEnd l + m) = (numP l).drop (dgc (numP l) + m) := by
    intro m
    rw [← hn, List.drop_drop, hE, hn]
    congr 1
    omega
  have hall := dgc_all (numP l)
  have hdle := dgc_le (numP l)
  generalize hd : dgc (numP l) = d at *
  have hsplit : numP l = (numP l).take d ++ (numP l).drop d := (List.take_append_drop d _).symm
  cases hr : (numP l).drop d with
  | nil =>
    have hdl : d = (numP l).length := by
      have := congrArg List.length hr
      rw [List.length_drop] at this
      simp at this
      omega
    have hfull : (numP l).all isDig = true := by rw [hdl, List.take_length] at hall; exact hall
    have hcut := cut_dig (numP l) hfull
    have hEl : fmEnd l = l.length := by omega
    have hwh : whP l = numP l := by unfold whP; rw [hcut]
    have hfr : frP l = [] := by unfold frP; rw [hcut]
    have hpt : ptP l = false := by unfold ptP; rw [hcut]
    constructor
    · unfold fmOK okP
      rw [hwh, hpt, decide_eq_true hEl, digs_dgc, hd, decide_eq_true hdl]
      simp [hE]
    · intro _
      refine ⟨by rw [htake, hdl, List.take_length, hwh], ?_⟩
      rw [hfr]
      unfold fmBehind
      rw [if_pos hEl, hEl, List.drop_length]
  | cons c r =>
    have hnd := dgc_next (numP l) c r (by rw [hd]; exact hr)
    have hlt : d < (numP l).length := by
      have := congrArg List.length hr
      rw [List.length_drop] at this
      simp at this
      omega
    have hEl : ¬ fmEnd l = l.length := by omega
    have hget : l[fmEnd l]? = some c := by
      have h0 := hdropE 0
      rw [Nat.add_zero, Nat.add_zero, hr] at h0
      rw [← List.head?_drop, h0]
      rfl
    have hrest : l.drop (fmEnd l + 1) = r := by
      rw [hdropE 1, ← List.drop_drop, hr]
      rfl
    by_cases hc : c = 46
    · subst hc
      have hcut : cut (numP l) [46] = ((numP l).take d, r, true) := by
        have := cut_point ((numP l).take d) r hall
        rw [← hr, ← hsplit] at this
        exact this
      have hwh : whP l = (numP l).take d := by unfold whP; rw [hcut]
      have hfr : frP l = r := by unfold frP; rw [hcut]
      have hpt : ptP l = true := by unfold ptP; rw [hcut]
      have hlr : l.length = fmEnd l + 1 + r.length := by
        have := congrArg List.length hrest
        rw [List.length_drop] at this
        omega
      have hdw : digs ((numP l).take d) = decide (d ≠ 0) := by
        rw [digs_dgc, dgc_full _ hall, List.length_take, Nat.min_eq_left (by omega)]
        simp
      constructor
      · unfold fmOK okP
        rw [hwh, hfr, hpt, hget, hrest, decide_eq_false hEl, hdw, digs_dgc r, hlr]
        have e1 : decide (fmEnd l ≠ fmAt l) = decide (d ≠ 0) := decide_eq_decide.2 (by omega)
        have e2 : decide (fmEnd l + 1 + dgc r = fmEnd l + 1 + r.length) = decide (dgc r = r.length) := decide_eq_decide.2 (by omega)
        rw [e1, e2]
        simp
      · intro _
        refine ⟨by rw [htake, hwh], ?_⟩
        unfold fmBehind
        rw [if_neg hEl, hrest, hfr]
    · have hok : okP l = false := by
        unfold okP
        have : digs (whP l) = false := by
          unfold digs
          rw [Bool.and_eq_false_iff]
          refine Or.inl ?_
          have hmem : c ∈ whP l := by
            unfold whP cut
            rcases index_spec (numP l) [46] with ⟨hi, _⟩ | ⟨i, hi, hile, hocc, _⟩
            · rw [hi, if_neg (by omega), hsplit, hr]
              simp
            · rw [hi, if_pos (by omega)]
              have hi46 : ∃ r', (numP l).drop i = 46 :: r' := by
                unfold occAt at hocc
                cases hdi : (numP l).drop i with
                | nil => rw [hdi] at hocc; simp at hocc
                | cons x y =>
                  rw [hdi] at hocc
                  simp [List.isPrefixOf] at hocc
                  exact ⟨y, by rw [hocc]⟩
              obtain ⟨r', hr'⟩ := hi46
              have hdi : d < i := by
                rcases Nat.lt_trichotomy i d with h | h | h
                · exfalso
                  have hx : (46 : UInt8) ∈ (numP l).take d := by
                    rw [List.mem_take_iff_getElem]
                    have hg : (numP l)[i]? = some 46 := by rw [← List.head?_drop, hr']; rfl
                    obtain ⟨hl', hg'⟩ := List.getElem?_eq_some_iff.1 hg
                    exact ⟨i, by omega, hg'⟩
                  rw [List.all_eq_true] at hall
                  exact absurd (hall 46 hx) (by decide)
                · exfalso
                  subst h
                  rw [hr] at hr'
                  injection hr' with h1 _
                  exact hc h1
                · exact h
              have hg : (numP l)[d]? = some c := by rw [← List.head?_drop, hr]; rfl
              obtain ⟨hl', hg'⟩ := List.getElem?_eq_some_iff.1 hg
              simp only [Int.toNat_natCast]
              rw [List.mem_take_iff_getElem]
              exact ⟨d, by omega, hg'⟩
          rw [List.all_eq_false]
          exact ⟨c, hmem, by rw [hnd]; simp⟩
        rw [this]
        rfl
      constructor
      · unfold fmOK
        rw [hok, hget, decide_eq_false hEl]
        simp [hc]
      · intro h
        rw [hok] at h
        cases h
end Go.Proofs.YtdmfmiejjghfnaaDoor
