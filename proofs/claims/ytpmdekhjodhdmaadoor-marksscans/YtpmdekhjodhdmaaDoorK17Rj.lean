/-
  A tag as the reference reads it, and as the landed code does: plain.
-/
import Derived.Test.YtpmdekhjodhdmaaDoorK17Ri
import Derived.Test.YtpmdekhjodhdmaaDoorK17R
namespace Go.Proofs.YtpmdekhjodhdmaaDoor.K17
open Go.RowKit Go.Proofs.YtpmdekhjodhdmaaDoor
open Go.Lib
set_option linter.unusedVariables false
set_option linter.unusedSimpArgs false
set_option maxRecDepth 100000

theorem mem_tw {p : UInt8 → Bool} : ∀ {l : List UInt8} {b : UInt8}, b ∈ l.takeWhile p → p b = true
  | [], b, h => by simp at h
  | c :: l, b, h => by
    rw [List.takeWhile_cons] at h
    split at h
    · rename_i hc
      rcases List.mem_cons.1 h with rfl | h
      · exact hc
      · exact mem_tw h
    · simp at h
/- bytes that are no control characters -/
def calm (b : UInt8) : Prop := b.toNat < 128 ∧ ctl b.toNat = false
theorem hc_calm : ∀ (t r : List UInt8), (∀ b ∈ t, calm b) → hc (t ++ r) = hc r
  | [], r, _ => rfl
  | b :: t, r, h => by
    have hb := h b (by simp)
    have h1 := hb.1
    have h2 : e8 b.toNat = [b] := by
      rw [u8_1 h1]; congr 1
      apply UInt8.toNat_inj.1; exact bt_nat _ (by omega)
    have h3 := hc_cons b.toNat (t ++ r) (isP_t.2 (by omega))
    rw [h2] at h3
    rw [show (b :: t) ++ r = [b] ++ (t ++ r) from rfl, h3, hb.2, hc_calm t r (fun x hx => h x (by simp [hx]))]
    rfl
theorem vt_calm : ∀ (t : List UInt8), (∀ b ∈ t, calm b) → Vt t
  | [], _ => .nil
  | b :: t, h => Vt.cons1 (h b (by simp)).1 (vt_calm t fun x hx => h x (by simp [hx]))
theorem hc_app {a : List UInt8} (h : Vt a) (b : List UInt8) : hc (a ++ b) = (hc a || hc b) := by
  induction h with
  | nil => rfl
  | cons c r hcp hr ih => rw [List.append_assoc, hc_cons c _ hcp, hc_cons c _ hcp, ih, Bool.or_assoc]
/- l is some bytes and then m -/
def Pre (P : List UInt8 → Prop) (l m : List UInt8) : Prop := ∃ t, l = t ++ m ∧ P t
def Clm (l m : List UInt8) : Prop := ∃ t, l = t ++ m ∧ ∀ b ∈ t, calm b
theorem Clm.rfl' (l : List UInt8) : Clm l l := ⟨[], rfl, by simp⟩
theorem Clm.trans {a b c : List UInt8} (h : Clm a b) (k : Clm b c) : Clm a c := by
  obtain ⟨t, rfl, h1⟩ := h
  obtain ⟨u, rfl, h2⟩ := k
  exact ⟨t ++ u, by rw [List.append_assoc], fun x hx => (List.mem_append.1 hx).elim (h1 x) (h2 x)⟩
theorem clm_bk (l : List UInt8) : Clm l (bk l) := by
  refine ⟨l.takeWhile blB, (List.takeWhile_append_dropWhile).symm, fun b hb => ?_⟩
  have := mem_tw hb
  simp only [blB, List.contains_eq_mem, List.mem_cons, List.not_mem_nil, or_false, decide_eq_true_eq] at this
  rcases this with rfl | rfl | rfl | rfl <;> exact ⟨by decide, by decide⟩
theorem clm_nm {l x r : List UInt8} (h : nm l = some (x, r)) : Clm l r := by
  refine ⟨x, (nm_len h).2, fun b hb => ?_⟩
  unfold nm at h
  split at h
  · simp only [Option.some.injEq, Prod.mk.injEq] at h
    rw [← h.1] at hb
    have := mem_tw hb
    refine ⟨vt_nmB this, ?_⟩
    simp only [nmB, nmN, smN, decide_eq_true_eq, Bool.or_eq_true, beq_iff_eq] at this
    unfold ctl
    simp; omega
  · simp at h
theorem clm_tp {c : UInt8} {l : List UInt8} (hc' : calm c) (h : hp [c] l = true) : Clm l (tp [c] l) :=
  ⟨[c], tp_one h, by simpa using hc'⟩
/- whether a control character stands between l and what of it is left -/
def HC (l r : List UInt8) : Bool := hc (l.take (l.length - r.length))
theorem HC_of (t r : List UInt8) : HC (t ++ r) r = hc t := by
  unfold HC
  rw [List.length_append, Nat.add_sub_cancel, List.take_left' rfl]
theorem HC_calm {l m r : List UInt8} (h : Clm l m) (hr : r <:+ m) : HC l r = HC m r := by
  obtain ⟨t, rfl, ht⟩ := h
  obtain ⟨u, rfl⟩ := hr
  rw [← List.append_assoc, HC_of, HC_of, hc_calm _ _ ht]
theorem HC_trans {l m r : List UInt8} (h : ∃ t, l = t ++ m ∧ Vt t) (hr : r <:+ m) : HC l r = (HC l m || HC m r) := by
  obtain ⟨t, rfl, ht⟩ := h
  obtain ⟨u, rfl⟩ := hr
  rw [HC_of, ← List.append_assoc, HC_of, HC_of, hc_app ht]
theorem Clm.suf {l m : List UInt8} (h : Clm l m) : m <:+ l := by
  obtain ⟨t, rfl, _⟩ := h
  exact List.suffix_append _ _
theorem Clm.le {l m : List UInt8} (h : Clm l m) : m.length ≤ l.length := h.suf.length_le
theorem HC_clm {l m : List UInt8} (h : Clm l m) : HC l m = false := by
  obtain ⟨t, rfl, ht⟩ := h
  rw [HC_of]
  have := hc_calm t [] ht
  rw [List.append_nil] at this
  rw [this]; rfl
theorem rv_str {l t r : List UInt8} (hv : Vt l) (h : rv l = some (t, r)) : (∃ u, l = u ++ r ∧ Vt u) ∧ r.length < l.length ∧ Vt r := by
  have k := rv_vq _ l (Nat.le_refl _) hv (RV.start l) (PL.start (upto 34 l))
  rw [h] at k
  obtain ⟨h34, _, rfl, _⟩ := k
  have hlt := upto_lt h34
  have hg := upto_get h34
  have hu : l = (upto 34 l ++ [34]) ++ l.drop ((upto 34 l).length + 1) := by
    have : l.take ((upto 34 l).length + 1) = upto 34 l ++ [34] := by
      rw [List.take_add_one, hg, upto_take]; rfl
    rw [← this, List.take_append_drop]
  refine ⟨⟨_, hu, (vt_split (b := 34) (by decide) hv).1.app (Vt.one (by decide))⟩, by rw [List.length_drop]; omega, ?_⟩
  exact (vt_upto (c := 34) (by decide) hv h34).2
/- an attribute both ways -/
theorem atR_str {l x t r : List UInt8} (hv : Vt l) (h : atR l = some (x, t, r)) : (∃ u, l = u ++ r ∧ Vt u) ∧ r.length < l.length ∧ Vt r ∧ att l = if HC l r = true then none else some (x, t, r) := by
  unfold atR at h
  unfold att
  cases hn : nm l with
  | none => rw [hn] at h; simp at h
  | some p =>
    obtain ⟨y, q⟩ := p
    rw [hn] at h
    simp only at h ⊢
    split at h
    · rename_i h61
      split at h
      · rename_i h34
        rw [if_pos h61, if_pos h34]
        have hv2 := vt_tp1 (c := 34) (by decide) (vt_bk (vt_tp1 (c := 61) (by decide) (vt_bk (vt_nm hv hn)) h61)) h34
        have hC : Clm l (tp [34] (bk (tp [61] (bk q)))) := ((((clm_nm hn).trans (clm_bk q)).trans (clm_tp (by exact ⟨by decide, by decide⟩) h61)).trans (clm_bk _)).trans (clm_tp (by exact ⟨by decide, by decide⟩) h34)
        rw [rv_va hv2]
        cases hr : rv (tp [34] (bk (tp [61] (bk q)))) with
        | none => rw [hr] at h; simp at h
        | some u =>
          obtain ⟨u1, u2⟩ := u
          rw [hr] at h
          simp only [Option.some.injEq, Prod.mk.injEq] at h
          obtain ⟨rfl, rfl, rfl⟩ := h
          obtain ⟨⟨z, hz, hvz⟩, hlt, hvr⟩ := rv_str hv2 hr
          have hs : u2 <:+ tp [34] (bk (tp [61] (bk q))) := by
            refine ⟨z, ?_⟩; exact hz.symm
          have hle := hC.le
          refine ⟨?_, by omega, hvr, ?_⟩
          · obtain ⟨a, ha, hca⟩ := hC
            exact ⟨a ++ z, by rw [List.append_assoc, ← hz]; exact ha, (vt_calm _ hca).app hvz⟩
          · rw [HC_calm hC hs]
            simp only
            have e : hc (List.take ((tp [34] (bk (tp [61] (bk q)))).length - u2.length) (tp [34] (bk (tp [61] (bk q))))) = HC (tp [34] (bk (tp [61] (bk q)))) u2 := rfl
            rw [e]
            cases HC (tp [34] (bk (tp [61] (bk q)))) u2 <;> rfl
      · simp at h
    · simp at h
theorem atR_none {l : List UInt8} (hv : Vt l) (h : atR l = none) : att l = none := by
  unfold atR at h
  unfold att
  cases hn : nm l with
  | none => rfl
  | some p =>
    obtain ⟨y, q⟩ := p
    rw [hn] at h
    simp only at h ⊢
    split at h
    · rename_i h61
      split at h
      · rename_i h34
        rw [if_pos h61, if_pos h34]
        have hv2 := vt_tp1 (c := 34) (by decide) (vt_bk (vt_tp1 (c := 61) (by decide) (vt_bk (vt_nm hv hn)) h61)) h34
        rw [rv_va hv2]
        cases hr : rv (tp [34] (bk (tp [61] (bk q)))) with
        | none => rfl
        | some u => obtain ⟨u1, u2⟩ := u; rw [hr] at h; simp at h
      · rename_i h34; rw [if_pos h61, if_neg h34]
    · rename_i h61; rw [if_neg h61]
/- what stands behind the name of a tag that opens, as the reference reads it -/
def opRF : Nat → List UInt8 → List At → Option (Int × List At × List UInt8)
  | 0, _, _ => none
  | f + 1, l, ps =>
    if hp [62] (bk l) then some (1, ps, tp [62] (bk l))
    else if hp [47, 62] (bk l) then some (3, ps, tp [47, 62] (bk l))
    else if (bk l).length < l.length ∧ ps.length < 16 then (match atR (bk l) with
      | none => none
      | some (x, t, r) => if nmd ps x then none else opRF f r (ps ++ [(x, t)]))
    else none
theorem clm_tp2 {l : List UInt8} (h : hp [47, 62] l = true) : Clm l (tp [47, 62] l) := by
  obtain ⟨q, rfl, hq2⟩ := hp_cons h
  obtain ⟨q2, rfl, _⟩ := hp_cons hq2
  refine ⟨[47, 62], ?_, ?_⟩
  · unfold tp; rw [if_pos h]; rfl
  · intro b hb
    simp only [List.mem_cons, List.not_mem_nil, or_false] at hb
    rcases hb with rfl | rfl <;> exact ⟨by decide, by decide⟩
theorem opRF_opF : ∀ (f : Nat) (l : List UInt8) (ps : List At), Vt l → match opRF f l ps with
    | none => opF f l ps = none
    | some (k, qs, r) => r <:+ l ∧ opF f l ps = if HC l r = true then none else some (k, qs, r)
  | 0, l, ps, hv => rfl
  | f + 1, l, ps, hv => by
    rw [opRF, opF]
    have hvb := vt_bk hv
    by_cases h62 : hp [62] (bk l) = true
    · rw [if_pos h62, if_pos h62]
      have hC := (clm_bk l).trans (clm_tp (c := 62) (by exact ⟨by decide, by decide⟩) h62)
      exact ⟨hC.suf, by rw [HC_clm hC]; rfl⟩
    · rw [if_neg h62, if_neg h62]
      by_cases h47 : hp [47, 62] (bk l) = true
      · rw [if_pos h47, if_pos h47]
        have hC := (clm_bk l).trans (clm_tp2 h47)
        exact ⟨hC.suf, by rw [HC_clm hC]; rfl⟩
      · rw [if_neg h47, if_neg h47]
        by_cases hl : (bk l).length < l.length ∧ ps.length < 16
        · rw [if_pos hl, if_pos hl]
          cases ha : atR (bk l) with
          | none => rw [atR_none hvb ha]
          | some p =>
            obtain ⟨x, t, z⟩ := p
            obtain ⟨hz, hlt, hvz, hat⟩ := atR_str hvb ha
            have hzs : z <:+ bk l := by obtain ⟨u, hu, _⟩ := hz; exact ⟨u, hu.symm⟩
            rw [hat]
            simp only
            by_cases hn : nmd ps x = true
            · rw [if_pos hn]
              simp only
              cases HC (bk l) z with
              | true => rfl
              | false =>
                show (if nmd ps x = true then none else opF f z (ps ++ [(x, t)])) = none
                rw [if_pos hn]
            · rw [if_neg hn]
              have ih := opRF_opF f z (ps ++ [(x, t)]) hvz
              cases ho : opRF f z (ps ++ [(x, t)]) with
              | none =>
                rw [ho] at ih
                simp only at ih ⊢
                cases HC (bk l) z with
                | true => rfl
                | false =>
                  show (if nmd ps x = true then none else opF f z (ps ++ [(x, t)])) = none
                  rw [if_neg hn]; exact ih
              | some u =>
                obtain ⟨k, qs, r⟩ := u
                rw [ho] at ih
                simp only at ih ⊢
                obtain ⟨i1, i2⟩ := ih
                refine ⟨(i1.trans hzs).trans (bk_suf l), ?_⟩
                rw [HC_calm (clm_bk l) (i1.trans hzs), HC_trans hz i1]
                by_cases hh : HC (bk l) z = true
                · rw [if_pos hh, hh]; rfl
                · rw [if_neg hh, Bool.eq_false_iff.2 hh, Bool.false_or]
                  show (if nmd ps x = true then none else opF f z (ps ++ [(x, t)])) = _
                  rw [if_neg hn]; exact i2
        · rw [if_neg hl, if_neg hl]
/- a tag as the reference reads it, control characters apart -/
def opR (l : List UInt8) : Option (Int × List UInt8 × List At × List UInt8) := match nm l with
  | none => none
  | some (x, r) => match opRF (r.length + 1) r [] with
    | none => none
    | some (k, ps, q) => some (k, x, ps, q)
def tagR (l : List UInt8) : Option (Int × List UInt8 × List At × List UInt8) :=
  if hp [60] l then (if hp [47] (tp [60] l) then (match clo (tp [47] (tp [60] l)) with
    | none => none
    | some (x, r) => some (2, x, [], r)) else opR (tp [60] l)) else none
theorem clm_clo {l x r : List UInt8} (h : clo l = some (x, r)) : Clm l r := by
  unfold clo at h
  cases hn : nm l with
  | none => rw [hn] at h; simp at h
  | some p =>
    obtain ⟨y, q⟩ := p
    rw [hn] at h
    simp only at h
    split at h
    · rename_i h62
      simp only [Option.some.injEq, Prod.mk.injEq] at h
      obtain ⟨rfl, rfl⟩ := h
      exact ((clm_nm hn).trans (clm_bk _)).trans (clm_tp (by exact ⟨by decide, by decide⟩) h62)
    · simp at h
theorem opR_op {l : List UInt8} (hv : Vt l) : match opR l with
    | none => op l = none
    | some (k, x, qs, r) => r <:+ l ∧ op l = if HC l r = true then none else some (k, x, qs, r) := by
  unfold opR op
  cases hn : nm l with
  | none => rfl
  | some p =>
    obtain ⟨y, q⟩ := p
    simp only
    have ih := opRF_opF (q.length + 1) q [] (vt_nm hv hn)
    cases ho : opRF (q.length + 1) q [] with
    | none => rw [ho] at ih; simp only at ih ⊢; rw [ih]
    | some u =>
      obtain ⟨k, qs, r⟩ := u
      rw [ho] at ih
      simp only at ih ⊢
      obtain ⟨i1, i2⟩ := ih
      refine ⟨i1.trans (nm_suf hn), ?_⟩
      rw [HC_calm (clm_nm hn) i1, i2]
      by_cases hh : HC q r = true
      · rw [if_pos hh, if_pos hh]
      · rw [if_neg hh, if_neg hh]
/- a tag both ways -/
theorem tagR_tagV {l : List UInt8} (hv : Vt l) : match tagR l with
    | none => tagV l = none
    | some (k, x, qs, r) => r <:+ l ∧ tagV l = if HC l r = true then none else some (k, x, qs, r) := by
  unfold tagR tagV
  by_cases h60 : hp [60] l = true
  · rw [if_pos h60, if_pos h60]
    have hC0 := clm_tp (c := 60) (by exact ⟨by decide, by decide⟩) h60
    by_cases h47 : hp [47] (tp [60] l) = true
    · rw [if_pos h47, if_pos h47]
      cases hc' : clo (tp [47] (tp [60] l)) with
      | none => rfl
      | some p =>
        obtain ⟨x, r⟩ := p
        simp only
        have hC := (hC0.trans (clm_tp (c := 47) (by exact ⟨by decide, by decide⟩) h47)).trans (clm_clo hc')
        exact ⟨hC.suf, by rw [HC_clm hC]; rfl⟩
    · rw [if_neg h47, if_neg h47]
      have ih := opR_op (vt_tp1 (c := 60) (by decide) hv h60)
      cases ho : opR (tp [60] l) with
      | none => rw [ho] at ih; exact ih
      | some u =>
        obtain ⟨k, x, qs, r⟩ := u
        rw [ho] at ih
        simp only at ih ⊢
        obtain ⟨i1, i2⟩ := ih
        exact ⟨i1.trans hC0.suf, by rw [HC_calm hC0 i1]; exact i2⟩
  · rw [if_neg h60, if_neg h60]
end Go.Proofs.YtpmdekhjodhdmaaDoor.K17
