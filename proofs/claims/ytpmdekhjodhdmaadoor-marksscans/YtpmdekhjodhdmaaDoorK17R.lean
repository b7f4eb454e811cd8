/-
  A tag, a token, the tokens of a text, in plain words.
-/
import Derived.Test.YtpmdekhjodhdmaaDoorK17H
namespace Go.Proofs.YtpmdekhjodhdmaaDoor.K17
open Go.RowKit Go.Proofs.YtpmdekhjodhdmaaDoor
open Go.Lib
set_option linter.unusedVariables false
set_option linter.unusedSimpArgs false
set_option maxRecDepth 8000

/- a tag: its kind, its name, its attributes, what is behind it -/
def tagV (l : List UInt8) : Option (Int × List UInt8 × List At × List UInt8) :=
  if hp [60] l then (if hp [47] (tp [60] l) then (match clo (tp [47] (tp [60] l)) with
    | none => none
    | some (x, r) => some (2, x, [], r)) else op (tp [60] l)) else none
/- a token -/
structure Tk where
  k : Int
  x : List UInt8
  t : List UInt8
  ps : List At
  a : Nat
deriving DecidableEq
theorem clo_len {l x r : List UInt8} (h : clo l = some (x, r)) : r.length < l.length ∧ (Vt l → Vt r) := by
  unfold clo at h
  cases hn : nm l with
  | none => rw [hn] at h; simp at h
  | some p =>
    obtain ⟨y, q⟩ := p
    rw [hn] at h
    simp only at h
    split at h
    · rename_i h62
      simp only [Option.some.injEq, Prod.mk.injEq] at h
      obtain ⟨rfl, rfl⟩ := h
      have h1 := (nm_len hn).1
      have := bk_le q; have := tp_len [62] (bk q)
      exact ⟨by omega, fun hv => vt_tp1 (by decide) (vt_bk (vt_nm hv hn)) h62⟩
    · simp at h
theorem opF_len : ∀ (f : Nat) (l : List UInt8) (ps : List At) {k : Int} {qs : List At} {r : List UInt8}, opF f l ps = some (k, qs, r) → r.length ≤ l.length ∧ (Vt l → Vt r) ∧ qs.length ≤ max ps.length 16 ∧ (k = 1 ∨ k = 3)
  | 0, l, ps, k, qs, r, h => by simp [opF] at h
  | f + 1, l, ps, k, qs, r, h => by
    rw [opF] at h
    have hb := bk_le l
    split at h
    · rename_i h62
      simp only [Option.some.injEq, Prod.mk.injEq] at h
      obtain ⟨rfl, rfl, rfl⟩ := h
      have := tp_len [62] (bk l)
      exact ⟨by omega, fun hv => vt_tp1 (by decide) (vt_bk hv) h62, by omega, Or.inl rfl⟩
    · split at h
      · rename_i h62 h47
        simp only [Option.some.injEq, Prod.mk.injEq] at h
        obtain ⟨rfl, rfl, rfl⟩ := h
        have := tp_len [47, 62] (bk l)
        refine ⟨by omega, fun hv => ?_, by omega, Or.inr rfl⟩
        have hv2 := vt_bk hv
        obtain ⟨q, hq, hq2⟩ := hp_cons h47
        obtain ⟨q2, hq3, _⟩ := hp_cons hq2
        unfold tp
        rw [if_pos h47, hq, hq3]
        rw [hq, hq3] at hv2
        exact ((hv2.low (by decide)).1.low (by decide)).1
      · split at h
        · rename_i h62 h47 hc
          cases ha : att (bk l) with
          | none => rw [ha] at h; simp at h
          | some p =>
            obtain ⟨x, t, z⟩ := p
            rw [ha] at h
            simp only at h
            split at h
            · simp at h
            · have h1 := att_len ha
              obtain ⟨g1, g2, g3, g4⟩ := opF_len f z _ h
              rw [List.length_append] at g3
              simp only [List.length_singleton] at g3
              exact ⟨by omega, fun hv => g2 (h1.2 (vt_bk hv)), by omega, g4⟩
        · simp at h
theorem op_len {l x : List UInt8} {k : Int} {qs : List At} {r : List UInt8} (h : op l = some (k, x, qs, r)) : r.length < l.length ∧ (Vt l → Vt r) ∧ qs.length ≤ 16 ∧ (k = 1 ∨ k = 3) := by
  unfold op at h
  cases hn : nm l with
  | none => rw [hn] at h; simp at h
  | some p =>
    obtain ⟨y, q⟩ := p
    rw [hn] at h
    simp only at h
    cases ho : opF (q.length + 1) q [] with
    | none => rw [ho] at h; simp at h
    | some u =>
      obtain ⟨k', ps', r'⟩ := u
      rw [ho] at h
      simp only [Option.some.injEq, Prod.mk.injEq] at h
      obtain ⟨rfl, rfl, rfl, rfl⟩ := h
      have h1 := (nm_len hn).1
      obtain ⟨g1, g2, g3, g4⟩ := opF_len _ _ _ ho
      exact ⟨by omega, fun hv => g2 (vt_nm hv hn), by simpa using g3, g4⟩
theorem tagV_len {l x : List UInt8} {k : Int} {qs : List At} {r : List UInt8} (h : tagV l = some (k, x, qs, r)) : r.length < l.length ∧ (Vt l → Vt r) ∧ qs.length ≤ 16 ∧ (k = 1 ∨ k = 2 ∨ k = 3) := by
  unfold tagV at h
  split at h
  · rename_i h60
    have t0 := tp_one h60
    have l0 := congrArg List.length t0
    rw [List.length_cons] at l0
    split at h
    · rename_i h47
      cases hc : clo (tp [47] (tp [60] l)) with
      | none => rw [hc] at h; simp at h
      | some p =>
        obtain ⟨y, q⟩ := p
        rw [hc] at h
        simp only [Option.some.injEq, Prod.mk.injEq] at h
        obtain ⟨rfl, rfl, rfl, rfl⟩ := h
        have h1 := clo_len hc
        have := tp_len [47] (tp [60] l)
        exact ⟨by omega, fun hv => h1.2 (vt_tp1 (by decide) (vt_tp1 (by decide) hv h60) h47), by simp, by simp⟩
    · obtain ⟨g1, g2, g3, g4⟩ := op_len h
      exact ⟨by omega, fun hv => g2 (vt_tp1 (by decide) hv h60), g3, by omega⟩
  · simp at h
/- what is behind is the end of it -/
theorem bk_suf (l : List UInt8) : bk l <:+ l := List.dropWhile_suffix _
theorem tp_suf (p l : List UInt8) : tp p l <:+ l := by
  unfold tp; split
  · exact List.drop_suffix _ _
  · exact List.suffix_rfl
theorem nm_suf {l x r : List UInt8} (h : nm l = some (x, r)) : r <:+ l := by
  rw [(nm_len h).2]; exact List.suffix_append _ _
theorem va_suf {l t r : List UInt8} (h : va l = some (t, r)) : r <:+ l := by
  unfold va at h
  split at h
  · split at h
    · simp at h
    · cases hp : pl (upto 34 l) with
      | error p => rw [hp] at h; simp at h
      | ok u =>
        rw [hp] at h
        simp only [Option.some.injEq, Prod.mk.injEq] at h
        rw [← h.2]
        exact List.drop_suffix _ _
  · simp at h
theorem att_suf {l x t r : List UInt8} (h : att l = some (x, t, r)) : r <:+ l := by
  unfold att at h
  cases hn : nm l with
  | none => rw [hn] at h; simp at h
  | some p =>
    obtain ⟨y, q⟩ := p
    rw [hn] at h
    simp only at h
    split at h
    · split at h
      · cases hv : va (tp [34] (bk (tp [61] (bk q)))) with
        | none => rw [hv] at h; simp at h
        | some u =>
          obtain ⟨u1, u2⟩ := u
          rw [hv] at h
          simp only [Option.some.injEq, Prod.mk.injEq] at h
          obtain ⟨rfl, rfl, rfl⟩ := h
          exact (((((va_suf hv).trans (tp_suf _ _)).trans (bk_suf _)).trans (tp_suf _ _)).trans (bk_suf _)).trans (nm_suf hn)
      · simp at h
    · simp at h
theorem clo_suf {l x r : List UInt8} (h : clo l = some (x, r)) : r <:+ l := by
  unfold clo at h
  cases hn : nm l with
  | none => rw [hn] at h; simp at h
  | some p =>
    obtain ⟨y, q⟩ := p
    rw [hn] at h
    simp only at h
    split at h
    · simp only [Option.some.injEq, Prod.mk.injEq] at h
      obtain ⟨rfl, rfl⟩ := h
      exact ((tp_suf _ _).trans (bk_suf _)).trans (nm_suf hn)
    · simp at h
theorem opF_suf : ∀ (f : Nat) (l : List UInt8) (ps : List At) {k : Int} {qs : List At} {r : List UInt8}, opF f l ps = some (k, qs, r) → r <:+ l
  | 0, l, ps, k, qs, r, h => by simp [opF] at h
  | f + 1, l, ps, k, qs, r, h => by
    rw [opF] at h
    split at h
    · simp only [Option.some.injEq, Prod.mk.injEq] at h
      obtain ⟨rfl, rfl, rfl⟩ := h
      exact (tp_suf _ _).trans (bk_suf _)
    · split at h
      · simp only [Option.some.injEq, Prod.mk.injEq] at h
        obtain ⟨rfl, rfl, rfl⟩ := h
        exact (tp_suf _ _).trans (bk_suf _)
      · split at h
        · cases ha : att (bk l) with
          | none => rw [ha] at h; simp at h
          | some p =>
            obtain ⟨x, t, z⟩ := p
            rw [ha] at h
            simp only at h
            split at h
            · simp at h
            · exact ((opF_suf f z _ h).trans (att_suf ha)).trans (bk_suf _)
        · simp at h
theorem op_suf {l x : List UInt8} {k : Int} {qs : List At} {r : List UInt8} (h : op l = some (k, x, qs, r)) : r <:+ l := by
  unfold op at h
  cases hn : nm l with
  | none => rw [hn] at h; simp at h
  | some p =>
    obtain ⟨y, q⟩ := p
    rw [hn] at h
    simp only at h
    cases ho : opF (q.length + 1) q [] with
    | none => rw [ho] at h; simp at h
    | some u =>
      obtain ⟨k', ps', r'⟩ := u
      rw [ho] at h
      simp only [Option.some.injEq, Prod.mk.injEq] at h
      obtain ⟨rfl, rfl, rfl, rfl⟩ := h
      exact (opF_suf _ _ _ ho).trans (nm_suf hn)
theorem tagV_suf {l x : List UInt8} {k : Int} {qs : List At} {r : List UInt8} (h : tagV l = some (k, x, qs, r)) : r <:+ l := by
  unfold tagV at h
  split at h
  · split at h
    · cases hc : clo (tp [47] (tp [60] l)) with
      | none => rw [hc] at h; simp at h
      | some p =>
        obtain ⟨y, q⟩ := p
        rw [hc] at h
        simp only [Option.some.injEq, Prod.mk.injEq] at h
        obtain ⟨rfl, rfl, rfl, rfl⟩ := h
        exact ((clo_suf hc).trans (tp_suf _ _)).trans (tp_suf _ _)
    · exact (op_suf h).trans (tp_suf _ _)
  · simp at h
theorem suf_drop {r l : List UInt8} (h : r <:+ l) : l.drop (l.length - r.length) = r := (List.suffix_iff_eq_drop.1 h).symm
/- the token with which bytes begin, and how long it is; or how far behind the beginning the fault is -/
def tokV (l : List UInt8) : Except Nat (Tk × Nat) :=
  if l.getD 0 0 = 60 then (match tagV l with
    | none => .error 0
    | some (k, x, ps, r) => .ok (⟨k, x, [], ps, 0⟩, l.length - r.length))
  else (match pl (upto 60 l) with
    | .error p => .error p
    | .ok t => .ok (⟨4, [], t, [], 0⟩, (upto 60 l).length))
theorem upto_pos {b : UInt8} {l : List UInt8} (hl : l ≠ []) (h : l.getD 0 0 ≠ b) : 1 ≤ (upto b l).length := by
  cases l with
  | nil => exact absurd rfl hl
  | cons c r =>
    have hc : c ≠ b := by simpa using h
    unfold upto
    rw [List.takeWhile_cons, if_pos (by simpa using hc)]
    simp
theorem upto_all {b : UInt8} : ∀ {l : List UInt8}, b ∉ l → upto b l = l
  | [], _ => rfl
  | c :: l, h => by
    simp only [List.mem_cons, not_or] at h
    have ih := upto_all h.2
    unfold upto at *
    rw [List.takeWhile_cons, if_pos (by simpa using Ne.symm h.1), ih]
theorem vt_split {b : UInt8} (hb : b.toNat < 128) {l : List UInt8} (h : Vt l) : Vt (upto b l) ∧ Vt (l.drop (upto b l).length) := by
  have := h.cut (upto b l).length (fun c hc => by
    by_cases hm : b ∈ l
    · rw [upto_get hm] at hc; injection hc with hc; rw [← hc]; exact hb
    · have hu := upto_all hm
      rw [hu] at hc
      have := (List.getElem?_eq_some_iff.1 hc).1
      omega)
  rwa [upto_take] at this
theorem tokV_len {l : List UInt8} {t : Tk} {n : Nat} (hl : l ≠ []) (h : tokV l = .ok (t, n)) : 1 ≤ n ∧ n ≤ l.length ∧ (Vt l → Vt (l.drop n)) ∧ t.ps.length ≤ 16 := by
  unfold tokV at h
  split at h
  · cases ht : tagV l with
    | none => rw [ht] at h; simp at h
    | some p =>
      obtain ⟨k, x, ps, r⟩ := p
      rw [ht] at h
      simp only [Except.ok.injEq, Prod.mk.injEq] at h
      obtain ⟨rfl, rfl⟩ := h
      obtain ⟨g1, g2, g3, g4⟩ := tagV_len ht
      refine ⟨by omega, by omega, fun hv => ?_, g3⟩
      rw [suf_drop (tagV_suf ht)]
      exact g2 hv
  · rename_i h60
    cases hp' : pl (upto 60 l) with
    | error p => rw [hp'] at h; simp at h
    | ok u =>
      rw [hp'] at h
      simp only [Except.ok.injEq, Prod.mk.injEq] at h
      obtain ⟨rfl, rfl⟩ := h
      exact ⟨upto_pos hl h60, upto_le 60 l, fun hv => (vt_split (by decide) hv).2, by simp⟩
/- the tokens of a text -/
def scF : Nat → List UInt8 → Nat → List Tk → Except Nat (List Tk)
  | 0, _, _, acc => .ok acc
  | f + 1, l, p, acc => if l = [] then .ok acc else match tokV l with
    | .error q => .error (p + q)
    | .ok (t, n) => scF f (l.drop n) (p + n) (acc ++ [{ t with a := p }])
def scV (l : List UInt8) : Except Nat (List Tk) := scF l.length l 0 []
def SC (l : List UInt8) (p : Nat) (acc : List Tk) (R : Except Nat (List Tk)) : Prop := ∃ f, l.length ≤ f ∧ scF f l p acc = R
theorem SC.start (l : List UInt8) : SC l 0 [] (scV l) := ⟨_, Nat.le_refl _, rfl⟩
theorem SC.done {p : Nat} {acc : List Tk} {R : Except Nat (List Tk)} (h : SC [] p acc R) : R = .ok acc := by
  obtain ⟨f, _, h⟩ := h
  cases f with
  | zero => exact h.symm
  | succ f => exact h.symm
theorem SC.unf {l : List UInt8} {p : Nat} {acc : List Tk} {R : Except Nat (List Tk)} (h : SC l p acc R) (hl : l ≠ []) : ∃ f, l.length ≤ f + 1 ∧ scF (f + 1) l p acc = R := by
  obtain ⟨f, h1, h2⟩ := h
  have := List.length_pos_iff.2 hl
  obtain ⟨g, rfl⟩ : ∃ g, f = g + 1 := ⟨f - 1, by omega⟩
  exact ⟨g, h1, h2⟩
theorem SC.bad {l : List UInt8} {p q : Nat} {acc : List Tk} {R : Except Nat (List Tk)} (h : SC l p acc R) (hl : l ≠ []) (he : tokV l = .error q) : R = .error (p + q) := by
  obtain ⟨f, _, h2⟩ := h.unf hl
  rw [scF, if_neg hl, he] at h2
  exact h2.symm
theorem SC.step {l : List UInt8} {p n : Nat} {t : Tk} {acc : List Tk} {R : Except Nat (List Tk)} (h : SC l p acc R) (hl : l ≠ []) (he : tokV l = .ok (t, n)) : SC (l.drop n) (p + n) (acc ++ [{ t with a := p }]) R := by
  obtain ⟨f, h1, h2⟩ := h.unf hl
  rw [scF, if_neg hl, he] at h2
  have := tokV_len hl he
  exact ⟨f, by rw [List.length_drop]; omega, h2⟩
theorem scF_fuel : ∀ (f g : Nat) (l : List UInt8) (p : Nat) (acc : List Tk), l.length ≤ f → l.length ≤ g → scF f l p acc = scF g l p acc
  | 0, g, l, p, acc, h1, h2 => by
    obtain rfl : l = [] := List.length_eq_zero_iff.1 (by omega)
    cases g <;> rfl
  | f + 1, g, l, p, acc, h1, h2 => by
    by_cases hl : l = []
    · subst hl; cases g <;> rfl
    have hpos := List.length_pos_iff.2 hl
    obtain ⟨g, rfl⟩ : ∃ k, g = k + 1 := ⟨g - 1, by omega⟩
    rw [scF, scF, if_neg hl, if_neg hl]
    cases he : tokV l with
    | error q => rfl
    | ok u =>
      obtain ⟨t, n⟩ := u
      have := tokV_len hl he
      exact scF_fuel f g _ _ _ (by rw [List.length_drop]; omega) (by rw [List.length_drop]; omega)
theorem SC.uniq {l : List UInt8} {R : Except Nat (List Tk)} (h : SC l 0 [] R) : scV l = R := by
  obtain ⟨f, h1, h2⟩ := h
  exact (scF_fuel _ _ _ _ _ (Nat.le_refl _) h1).trans h2
end Go.Proofs.YtpmdekhjodhdmaaDoor.K17
