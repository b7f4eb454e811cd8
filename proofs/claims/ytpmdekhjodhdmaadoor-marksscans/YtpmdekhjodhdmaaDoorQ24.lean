/-
  Joined: K17Rj, K17Rk.
-/
import Derived.Deep.RegionHeld3
import Derived.Test.YtpmdekhjodhdmaaDoorQ15
import Derived.Test.YtpmdekhjodhdmaaDoorQ16
import Derived.Test.YtpmdekhjodhdmaaDoorQ23
namespace Go.Proofs.YtpmdekhjodhdmaaDoor.K17
open Go.RowKit Go.Proofs.YtpmdekhjodhdmaaDoor
open Go.Lib
set_option linter.unusedVariables false
set_option linter.unusedSimpArgs false
set_option maxRecDepth 100000
theorem mem_tw {p : UInt8 → Bool} : ∀ {l : List UInt8} {b : UInt8}, b ∈ l.takeWhile p → p b = true
  | [], b, h => by simp at h
  | c :: l, b, h => by
    rw [List.takeWhile_cons] at h
    split at h
    · rename_i hc
      rcases List.mem_cons.1 h with rfl | h
      · exact hc
      · exact mem_tw h
    · simp at h
def calm (b : UInt8) : Prop := b.toNat < 128 ∧ ctl b.toNat = false
theorem hc_calm : ∀ (t r : List UInt8), (∀ b ∈ t, calm b) → hc (t ++ r) = hc r
  | [], r, _ => rfl
  | b :: t, r, h => by
    have hb := h b (by simp)
    have h1 := hb.1
    have h2 : e8 b.toNat = [b] := by
      rw [u8_1 h1]; congr 1
      apply UInt8.toNat_inj.1; exact bt_nat _ (by omega)
    have h3 := hc_cons b.toNat (t ++ r) (isP_t.2 (by omega))
    rw [h2] at h3
    rw [show (b :: t) ++ r = [b] ++ (t ++ r) from rfl, h3, hb.2, hc_calm t r (fun x hx => h x (by simp [hx]))]
    rfl
theorem vt_calm : ∀ (t : List UInt8), (∀ b ∈ t, calm b) → Vt t
  | [], _ => .nil
  | b :: t, h => Vt.cons1 (h b (by simp)).1 (vt_calm t fun x hx => h x (by simp [hx]))
theorem hc_app {a : List UInt8} (h : Vt a) (b : List UInt8) : hc (a ++ b) = (hc a || hc b) := by
  induction h with
  | nil => rfl
  | cons c r hcp hr ih => rw [List.append_assoc, hc_cons c _ hcp, hc_cons c _ hcp, ih, Bool.or_assoc]
def Clm (l m : List UInt8) : Prop := ∃ t, l = t ++ m ∧ ∀ b ∈ t, calm b
theorem Clm.trans {a b c : List UInt8} (h : Clm a b) (k : Clm b c) : Clm a c := by
  obtain ⟨t, rfl, h1⟩ := h
  obtain ⟨u, rfl, h2⟩ := k
  exact ⟨t ++ u, by rw [List.append_assoc], fun x hx => (List.mem_append.1 hx).elim (h1 x) (h2 x)⟩
theorem clm_bk (l : List UInt8) : Clm l (bk l) := by
  refine ⟨l.takeWhile blB, (List.takeWhile_append_dropWhile).symm, fun b hb => ?_⟩
  have := mem_tw hb
  simp only [blB, List.contains_eq_mem, List.mem_cons, List.not_mem_nil, or_false, decide_eq_true_eq] at this
  rcases this with rfl | rfl | rfl | rfl <;> exact ⟨by decide, by decide⟩
theorem clm_nm {l x r : List UInt8} (h : nm l = some (x, r)) : Clm l r := by
  refine ⟨x, (nm_len h).2, fun b hb => ?_⟩
  unfold nm at h
  split at h
  · simp only [Option.some.injEq, Prod.mk.injEq] at h
    rw [← h.1] at hb
    have := mem_tw hb
    refine ⟨vt_nmB this, ?_⟩
    simp only [nmB, nmN, smN, decide_eq_true_eq, Bool.or_eq_true, beq_iff_eq] at this
    unfold ctl
    simp; omega
  · simp at h
theorem clm_tp {c : UInt8} {l : List UInt8} (hc' : calm c) (h : hp [c] l = true) : Clm l (tp [c] l) :=
  ⟨[c], tp_one h, by simpa using hc'⟩
def HC (l r : List UInt8) : Bool := hc (l.take (l.length - r.length))
theorem HC_of (t r : List UInt8) : HC (t ++ r) r = hc t := by
  unfold HC
  rw [List.length_append, Nat.add_sub_cancel, List.take_left' rfl]
theorem HC_calm {l m r : List UInt8} (h : Clm l m) (hr : r <:+ m) : HC l r = HC m r := by
  obtain ⟨t, rfl, ht⟩ := h
  obtain ⟨u, rfl⟩ := hr
  rw [← List.append_assoc, HC_of, HC_of, hc_calm _ _ ht]
theorem HC_trans {l m r : List UInt8} (h : ∃ t, l = t ++ m ∧ Vt t) (hr : r <:+ m) : HC l r = (HC l m || HC m r) := by
  obtain ⟨t, rfl, ht⟩ := h
  obtain ⟨u, rfl⟩ := hr
  rw [HC_of, ← List.append_assoc, HC_of, HC_of, hc_app ht]
theorem Clm.suf {l m : List UInt8} (h : Clm l m) : m <:+ l := by
  obtain ⟨t, rfl, _⟩ := h
  exact List.suffix_append _ _
theorem Clm.le {l m : List UInt8} (h : Clm l m) : m.length ≤ l.length := h.suf.length_le
theorem HC_clm {l m : List UInt8} (h : Clm l m) : HC l m = false := by
  obtain ⟨t, rfl, ht⟩ := h
  rw [HC_of]
  have := hc_calm t [] ht
  rw [List.append_nil] at this
  rw [this]; rfl
theorem rv_str {l t r : List UInt8} (hv : Vt l) (h : rv l = some (t, r)) : (∃ u, l = u ++ r ∧ Vt u) ∧ r.length < l.length ∧ Vt r := by
  have k := rv_vq _ l (Nat.le_refl _) hv (RV.start l) (PL.start (upto 34 l))
  rw [h] at k
  obtain ⟨h34, _, rfl, _⟩ := k
  have hlt := upto_lt h34
  have hg := upto_get h34
  have hu : l = (upto 34 l ++ [34]) ++ l.drop ((upto 34 l).length + 1) := by
    have : l.take ((upto 34 l).length + 1) = upto 34 l ++ [34] := by
      rw [List.take_add_one, hg, upto_take]; rfl
    rw [← this, List.take_append_drop]
  refine ⟨⟨_, hu, (vt_split (b := 34) (by decide) hv).1.app (Vt.one (by decide))⟩, by rw [List.length_drop]; omega, ?_⟩
  exact (vt_upto (c := 34) (by decide) hv h34).2
theorem atR_str {l x t r : List UInt8} (hv : Vt l) (h : atR l = some (x, t, r)) : (∃ u, l = u ++ r ∧ Vt u) ∧ r.length < l.length ∧ Vt r ∧ att l = if HC l r = true then none else some (x, t, r) := by
  unfold atR at h
  unfold att
  cases hn : nm l with
  | none => rw [hn] at h; simp at h
  | some p =>
    obtain ⟨y, q⟩ := p
    rw [hn] at h
    simp only at h ⊢
    split at h
    · rename_i h61
      split at h
      · rename_i h34
        rw [if_pos h61, if_pos h34]
        have hv2 := vt_tp1 (c := 34) (by decide) (vt_bk (vt_tp1 (c := 61) (by decide) (vt_bk (vt_nm hv hn)) h61)) h34
        have hC : Clm l (tp [34] (bk (tp [61] (bk q)))) := ((((clm_nm hn).trans (clm_bk q)).trans (clm_tp (by exact ⟨by decide, by decide⟩) h61)).trans (clm_bk _)).trans (clm_tp (by exact ⟨by decide, by decide⟩) h34)
        rw [rv_va hv2]
        cases hr : rv (tp [34] (bk (tp [61] (bk q)))) with
        | none => rw [hr] at h; simp at h
        | some u =>
          obtain ⟨u1, u2⟩ := u
          rw [hr] at h
          simp only [Option.some.injEq, Prod.mk.injEq] at h
          obtain ⟨rfl, rfl, rfl⟩ := h
          obtain ⟨⟨z, hz, hvz⟩, hlt, hvr⟩ := rv_str hv2 hr
          have hs : u2 <:+ tp [34] (bk (tp [61] (bk q))) := by
            refine ⟨z, ?_⟩; exact hz.symm
          have hle := hC.le
          refine ⟨?_, by omega, hvr, ?_⟩
          · obtain ⟨a, ha, hca⟩ := hC
            exact ⟨a ++ z, by rw [List.append_assoc, ← hz]; exact ha, (vt_calm _ hca).app hvz⟩
          · rw [HC_calm hC hs]
            simp only
            have e : hc (List.take ((tp [34] (bk (tp [61] (bk q)))).length - u2.length) (tp [34] (bk (tp [61] (bk q))))) = HC (tp [34] (bk (tp [61] (bk q)))) u2 := rfl
            rw [e]
            cases HC (tp [34] (bk (tp [61] (bk q)))) u2 <;> rfl
      · simp at h
    · simp at h
theorem atR_none {l : List UInt8} (hv : Vt l) (h : atR l = none) : att l = none := by
  unfold atR at h
  unfold att
  cases hn : nm l with
  | none => rfl
  | some p =>
    obtain ⟨y, q⟩ := p
    rw [hn] at h
    simp only at h ⊢
    split at h
    · rename_i h61
      split at h
      · rename_i h34
        rw [if_pos h61, if_pos h34]
        have hv2 := vt_tp1 (c := 34) (by decide) (vt_bk (vt_tp1 (c := 61) (by decide) (vt_bk (vt_nm hv hn)) h61)) h34
        rw [rv_va hv2]
        cases hr : rv (tp [34] (bk (tp [61] (bk q)))) with
        | none => rfl
        | some u => obtain ⟨u1, u2⟩ := u; rw [hr] at h; simp at h
      · rename_i h34; rw [if_pos h61, if_neg h34]
    · rename_i h61; rw [if_neg h61]
def opRF : Nat → List UInt8 → List At → Option (Int × List At × List UInt8)
  | 0, _, _ => none
  | f + 1, l, ps =>
    if hp [62] (bk l) then some (1, ps, tp [62] (bk l))
    else if hp [47, 62] (bk l) then some (3, ps, tp [47, 62] (bk l))
    else if (bk l).length < l.length ∧ ps.length < 16 then (match atR (bk l) with
      | none => none
      | some (x, t, r) => if nmd ps x then none else opRF f r (ps ++ [(x, t)]))
    else none
theorem clm_tp2 {l : List UInt8} (h : hp [47, 62] l = true) : Clm l (tp [47, 62] l) := by
  obtain ⟨q, rfl, hq2⟩ := hp_cons h
  obtain ⟨q2, rfl, _⟩ := hp_cons hq2
  refine ⟨[47, 62], ?_, ?_⟩
  · unfold tp; rw [if_pos h]; rfl
  · intro b hb
    simp only [List.mem_cons, List.not_mem_nil, or_false] at hb
    rcases hb with rfl | rfl <;> exact ⟨by decide, by decide⟩
theorem opRF_opF : ∀ (f : Nat) (l : List UInt8) (ps : List At), Vt l → match opRF f l ps with
    | none => opF f l ps = none
    | some (k, qs, r) => r <:+ l ∧ opF f l ps = if HC l r = true then none else some (k, qs, r)
  | 0, l, ps, hv => rfl
  | f + 1, l, ps, hv => by
    rw [opRF, opF]
    have hvb := vt_bk hv
    by_cases h62 : hp [62] (bk l) = true
    · rw [if_pos h62, if_pos h62]
      have hC := (clm_bk l).trans (clm_tp (c := 62) (by exact ⟨by decide, by decide⟩) h62)
      exact ⟨hC.suf, by rw [HC_clm hC]; rfl⟩
    · rw [if_neg h62, if_neg h62]
      by_cases h47 : hp [47, 62] (bk l) = true
      · rw [if_pos h47, if_pos h47]
        have hC := (clm_bk l).trans (clm_tp2 h47)
        exact ⟨hC.suf, by rw [HC_clm hC]; rfl⟩
      · rw [if_neg h47, if_neg h47]
        by_cases hl : (bk l).length < l.length ∧ ps.length < 16
        · rw [if_pos hl, if_pos hl]
          cases ha : atR (bk l) with
          | none => rw [atR_none hvb ha]
          | some p =>
            obtain ⟨x, t, z⟩ := p
            obtain ⟨hz, hlt, hvz, hat⟩ := atR_str hvb ha
            have hzs : z <:+ bk l := by obtain ⟨u, hu, _⟩ := hz; exact ⟨u, hu.symm⟩
            rw [hat]
            simp only
            by_cases hn : nmd ps x = true
            · rw [if_pos hn]
              simp only
              cases HC (bk l) z with
              | true => rfl
              | false =>
                show (if nmd ps x = true then none else opF f z (ps ++ [(x, t)])) = none
                rw [if_pos hn]
            · rw [if_neg hn]
              have ih := opRF_opF f z (ps ++ [(x, t)]) hvz
              cases ho : opRF f z (ps ++ [(x, t)]) with
              | none =>
                rw [ho] at ih
                simp only at ih ⊢
                cases HC (bk l) z with
                | true => rfl
                | false =>
                  show (if nmd ps x = true then none else opF f z (ps ++ [(x, t)])) = none
                  rw [if_neg hn]; exact ih
              | some u =>
                obtain ⟨k, qs, r⟩ := u
                rw [ho] at ih
                simp only at ih ⊢
                obtain ⟨i1, i2⟩ := ih
                refine ⟨(i1.trans hzs).trans (bk_suf l), ?_⟩
                rw [HC_calm (clm_bk l) (i1.trans hzs), HC_trans hz i1]
                by_cases hh : HC (bk l) z = true
                · rw [if_pos hh, hh]; rfl
                · rw [if_neg hh, Bool.eq_false_iff.2 hh, Bool.false_or]
                  show (if nmd ps x = true then none else opF f z (ps ++ [(x, t)])) = _
                  rw [if_neg hn]; exact i2
        · rw [if_neg hl, if_neg hl]
def opR (l : List UInt8) : Option (Int × List UInt8 × List At × List UInt8) := match nm l with
  | none => none
  | some (x, r) => match opRF (r.length + 1) r [] with
    | none => none
    | some (k, ps, q) => some (k, x, ps, q)
def tagR (l : List UInt8) : Option (Int × List UInt8 × List At × List UInt8) :=
  if hp [60] l then (if hp [47] (tp [60] l) then (match clo (tp [47] (tp [60] l)) with
    | none => none
    | some (x, r) => some (2, x, [], r)) else opR (tp [60] l)) else none
theorem clm_clo {l x r : List UInt8} (h : clo l = some (x, r)) : Clm l r := by
  unfold clo at h
  cases hn : nm l with
  | none => rw [hn] at h; simp at h
  | some p =>
    obtain ⟨y, q⟩ := p
    rw [hn] at h
    simp only at h
    split at h
    · rename_i h62
      simp only [Option.some.injEq, Prod.mk.injEq] at h
      obtain ⟨rfl, rfl⟩ := h
      exact ((clm_nm hn).trans (clm_bk _)).trans (clm_tp (by exact ⟨by decide, by decide⟩) h62)
    · simp at h
theorem opR_op {l : List UInt8} (hv : Vt l) : match opR l with
    | none => op l = none
    | some (k, x, qs, r) => r <:+ l ∧ op l = if HC l r = true then none else some (k, x, qs, r) := by
  unfold opR op
  cases hn : nm l with
  | none => rfl
  | some p =>
    obtain ⟨y, q⟩ := p
    simp only
    have ih := opRF_opF (q.length + 1) q [] (vt_nm hv hn)
    cases ho : opRF (q.length + 1) q [] with
    | none => rw [ho] at ih; simp only at ih ⊢; rw [ih]
    | some u =>
      obtain ⟨k, qs, r⟩ := u
      rw [ho] at ih
      simp only at ih ⊢
      obtain ⟨i1, i2⟩ := ih
      refine ⟨i1.trans (nm_suf hn), ?_⟩
      rw [HC_calm (clm_nm hn) i1, i2]
      by_cases hh : HC q r = true
      · rw [if_pos hh, if_pos hh]
      · rw [if_neg hh, if_neg hh]
theorem tagR_tagV {l : List UInt8} (hv : Vt l) : match tagR l with
    | none => tagV l = none
    | some (k, x, qs, r) => r <:+ l ∧ tagV l = if HC l r = true then none else some (k, x, qs, r) := by
  unfold tagR tagV
  by_cases h60 : hp [60] l = true
  · rw [if_pos h60, if_pos h60]
    have hC0 := clm_tp (c := 60) (by exact ⟨by decide, by decide⟩) h60
    by_cases h47 : hp [47] (tp [60] l) = true
    · rw [if_pos h47, if_pos h47]
      cases hc' : clo (tp [47] (tp [60] l)) with
      | none => rfl
      | some p =>
        obtain ⟨x, r⟩ := p
        simp only
        have hC := (hC0.trans (clm_tp (c := 47) (by exact ⟨by decide, by decide⟩) h47)).trans (clm_clo hc')
        exact ⟨hC.suf, by rw [HC_clm hC]; rfl⟩
    · rw [if_neg h47, if_neg h47]
      have ih := opR_op (vt_tp1 (c := 60) (by decide) hv h60)
      cases ho : opR (tp [60] l) with
      | none => rw [ho] at ih; exact ih
      | some u =>
        obtain ⟨k, x, qs, r⟩ := u
        rw [ho] at ih
        simp only at ih ⊢
        obtain ⟨i1, i2⟩ := ih
        exact ⟨i1.trans hC0.suf, by rw [HC_calm hC0 i1]; exact i2⟩
  · rw [if_neg h60, if_neg h60]
def RtR (w : World) (p n : Nat) (l : List UInt8) (R : Option (Int × List UInt8 × List At × List UInt8)) (e : Ending) (w' : World) : Prop := Below w.heap.size w w' ∧ match R with
  | some (k, x, ps, r) => ∃ v, e = .returned (.tuple #[.agg #[.int .i64 k, .string ⟨x.toArray⟩, .string ⟨#[]⟩, v, .int .i64 (p : Int)], .int .i64 ((n - r.length : Nat) : Int), .bool (!HC l r)]) ∧ ARow w' w.heap.size v ps
  | none => ∃ k1 x y a n c p1 k, e = .returned (.tuple #[.agg #[.int .i64 k1, .string x, .string y, .slice a n c, .int .i64 p1], .int .i64 k, .bool false])
theorem rtag_cn (s : ByteArray) (p : Nat) (w : World) (hs : s.size ≤ 65536) (hp' : p + 1 < s.size) (h47 : s[p + 1] = 47) (hn : nm (s.data.toList.drop (p + 2)) = none) :
    Calls Tryd.prog 23 #[.string s, .int .i64 (p : Int)] w (RtR w p s.size (s.data.toList.drop p) none) := by
  have hs' : (s.size : Int) ≤ 65536 := by omega
  have CN := hide (fun w => rname_any s (p + 2) w (by omega) (by omega))
  have hnm := nmL_nm (s.data.toList.drop (p + 2))
  rw [hn] at hnm
  obtain ⟨n, hn1⟩ : ∃ n, nmL (s.data.toList.drop (p + 2)) = n := ⟨_, rfl⟩
  have hnl := (nmL_le (s.data.toList.drop (p + 2))).2
  rw [hn1] at CN hnm hnl
  obtain ⟨p1, hp1⟩ : ∃ p1, p + 1 = p1 := ⟨_, rfl⟩
  obtain ⟨p2, hp2⟩ : ∃ p2, p + 2 = p2 := ⟨_, rfl⟩
  rw [hp2] at CN
  have e1 : (p : Int) + 1 = (p1 : Int) := by omega
  have e2 : (p1 : Int) + 1 = (p2 : Int) := by omega
  have hlt : (p1 : Int) < (s.size : Int) := by omega
  have hlt' : p1 < s.size := by omega
  have f47 : ((s[p1].toNat : Int) == 47) = true := by subst hp1; rw [h47]; rfl
  have hok : (n < 1 ∨ 16 < n) := by
    by_cases h : 1 ≤ n ∧ n ≤ 16
    · rw [if_pos h] at hnm; simp at hnm
    · omega
  clear hnm hn hn1
  rcases hok with hok | hok
  · have o1 : (n : Int) < 1 := by omega
    go_enter Tryd.func23, Tryd.ntmps23
    go_wp2_with (first
      | (go_at_call 43; refine (CN.out _).mono ?_; rintro e w1 ⟨rfl, hw⟩; subst hw))
    exact bodyPost_ret (v := .tuple #[.agg #[.int .i64 2, .string ⟨#[]⟩, .string ⟨#[]⟩, .slice none 0 0, .int .i64 (p : Int)], .int .i64 0, .bool false]) (by simp [results, Tryd.results23, go_sem]) rfl ⟨((Below.refl _ _).alloc (Nat.le_refl _) _).alloc (by simp) _, _, _, _, _, _, _, _, _, rfl⟩
  · have o1 : ¬ (n : Int) < 1 := by omega
    have o2 : (16 : Int) < (n : Int) := by omega
    go_enter Tryd.func23, Tryd.ntmps23
    go_wp2_with (first
      | (go_at_call 43; refine (CN.out _).mono ?_; rintro e w1 ⟨rfl, hw⟩; subst hw))
    exact bodyPost_ret (v := .tuple #[.agg #[.int .i64 2, .string ⟨#[]⟩, .string ⟨#[]⟩, .slice none 0 0, .int .i64 (p : Int)], .int .i64 0, .bool false]) (by simp [results, Tryd.results23, go_sem]) rfl ⟨((Below.refl _ _).alloc (Nat.le_refl _) _).alloc (by simp) _, _, _, _, _, _, _, _, _, rfl⟩
theorem rtag_on (s : ByteArray) (p : Nat) (w : World) (hs : s.size ≤ 65536) (hp' : p + 1 ≤ s.size) (h47 : hp [47] (s.data.toList.drop (p + 1)) = false) (hn : nm (s.data.toList.drop (p + 1)) = none) :
    Calls Tryd.prog 23 #[.string s, .int .i64 (p : Int)] w (RtR w p s.size (s.data.toList.drop p) none) := by
  have hs' : (s.size : Int) ≤ 65536 := by omega
  have CN := hide (fun w => rname_any s (p + 1) w (by omega) (by omega))
  have hnm := nmL_nm (s.data.toList.drop (p + 1))
  rw [hn] at hnm
  obtain ⟨n, hn1⟩ : ∃ n, nmL (s.data.toList.drop (p + 1)) = n := ⟨_, rfl⟩
  have hnl := (nmL_le (s.data.toList.drop (p + 1))).2
  rw [hn1] at CN hnm hnl
  obtain ⟨p1, hp1⟩ : ∃ p1, p + 1 = p1 := ⟨_, rfl⟩
  rw [hp1] at CN
  have e1 : (p : Int) + 1 = (p1 : Int) := by omega
  have hok : (n < 1 ∨ 16 < n) := by
    by_cases h : 1 ≤ n ∧ n ≤ 16
    · rw [if_pos h] at hnm; simp at hnm
    · omega
  clear hnm hn hn1
  rw [hp1] at h47
  by_cases hl1 : p1 < s.size
  · have hlt : (p1 : Int) < (s.size : Int) := by omega
    have f47 : ((s[p1].toNat : Int) == 47) = false := by
      rw [at_hp s p1 47 _ rfl hl1] at h47
      rw [beq_eq_false_iff_ne] at h47 ⊢
      intro h; apply h47; apply UInt8.toNat_inj.1; show s[p1].toNat = 47; omega
    clear h47
    rcases hok with hok | hok
    · have o1 : (n : Int) < 1 := by omega
      go_enter Tryd.func23, Tryd.ntmps23
      go_wp2_with (first
        | (go_at_call 43; refine (CN.out _).mono ?_; rintro e w1 ⟨rfl, hw⟩; subst hw))
      exact bodyPost_ret (v := .tuple #[.agg #[.int .i64 1, .string ⟨#[]⟩, .string ⟨#[]⟩, .slice none 0 0, .int .i64 (p : Int)], .int .i64 0, .bool false]) (by simp [results, Tryd.results23, go_sem]) rfl ⟨((Below.refl _ _).alloc (Nat.le_refl _) _).alloc (by simp) _, _, _, _, _, _, _, _, _, rfl⟩
    · have o1 : ¬ (n : Int) < 1 := by omega
      have o2 : (16 : Int) < (n : Int) := by omega
      go_enter Tryd.func23, Tryd.ntmps23
      go_wp2_with (first
        | (go_at_call 43; refine (CN.out _).mono ?_; rintro e w1 ⟨rfl, hw⟩; subst hw))
      exact bodyPost_ret (v := .tuple #[.agg #[.int .i64 1, .string ⟨#[]⟩, .string ⟨#[]⟩, .slice none 0 0, .int .i64 (p : Int)], .int .i64 0, .bool false]) (by simp [results, Tryd.results23, go_sem]) rfl ⟨((Below.refl _ _).alloc (Nat.le_refl _) _).alloc (by simp) _, _, _, _, _, _, _, _, _, rfl⟩
  · have hlt : ¬ (p1 : Int) < (s.size : Int) := by omega
    clear h47
    rcases hok with hok | hok
    · have o1 : (n : Int) < 1 := by omega
      go_enter Tryd.func23, Tryd.ntmps23
      go_wp2_with (first
        | (go_at_call 43; refine (CN.out _).mono ?_; rintro e w1 ⟨rfl, hw⟩; subst hw))
      exact bodyPost_ret (v := .tuple #[.agg #[.int .i64 1, .string ⟨#[]⟩, .string ⟨#[]⟩, .slice none 0 0, .int .i64 (p : Int)], .int .i64 0, .bool false]) (by simp [results, Tryd.results23, go_sem]) rfl ⟨((Below.refl _ _).alloc (Nat.le_refl _) _).alloc (by simp) _, _, _, _, _, _, _, _, _, rfl⟩
    · have o1 : ¬ (n : Int) < 1 := by omega
      have o2 : (16 : Int) < (n : Int) := by omega
      go_enter Tryd.func23, Tryd.ntmps23
      go_wp2_with (first
        | (go_at_call 43; refine (CN.out _).mono ?_; rintro e w1 ⟨rfl, hw⟩; subst hw))
      exact bodyPost_ret (v := .tuple #[.agg #[.int .i64 1, .string ⟨#[]⟩, .string ⟨#[]⟩, .slice none 0 0, .int .i64 (p : Int)], .int .i64 0, .bool false]) (by simp [results, Tryd.results23, go_sem]) rfl ⟨((Below.refl _ _).alloc (Nat.le_refl _) _).alloc (by simp) _, _, _, _, _, _, _, _, _, rfl⟩
theorem bdr {w : World} {b : Nat} {cs : Array Value} {t : TypeId} (h : Blk w b cs t) : Blk w.drew b cs t := h
theorem below_d {V a b x : World} (h : Below V.heap.size V a) (hx : Below b.heap.size b x) (e0 : b.os = a.os) (e1 : b.tape = a.tape) (e2 : b.output = a.output) (e3 : b.heap = a.heap) : Below V.heap.size V x :=
  ⟨hx.os.trans (e0.trans h.os), hx.tape.trans (e1.trans h.tape), hx.output.trans (e2.trans h.output), Nat.le_trans h.size (by rw [← e3]; exact hx.size), fun k hk => by
    rw [hx.block k (by rw [e3]; exact Nat.lt_of_lt_of_le hk h.size), e3]; exact h.block k hk⟩
theorem two_tk (w : World) (cs : Array Value) : Blk ((w.alloc (.cells #[.int .i64 0, .string ⟨#[]⟩, .string ⟨#[]⟩, .slice none 0 0, .int .i64 0] 45)).alloc (.cells cs 45)) w.heap.size #[.int .i64 0, .string ⟨#[]⟩, .string ⟨#[]⟩, .slice none 0 0, .int .i64 0] 45 ∧ Blk ((w.alloc (.cells #[.int .i64 0, .string ⟨#[]⟩, .string ⟨#[]⟩, .slice none 0 0, .int .i64 0] 45)).alloc (.cells cs 45)) (w.heap.size + 1) cs 45 ∧ Below w.heap.size w ((w.alloc (.cells #[.int .i64 0, .string ⟨#[]⟩, .string ⟨#[]⟩, .slice none 0 0, .int .i64 0] 45)).alloc (.cells cs 45)) := by
  have b1 := Blk.new (w.alloc (.cells #[.int .i64 0, .string ⟨#[]⟩, .string ⟨#[]⟩, .slice none 0 0, .int .i64 0] 45)) cs 45
  rw [show (w.alloc (.cells #[.int .i64 0, .string ⟨#[]⟩, .string ⟨#[]⟩, .slice none 0 0, .int .i64 0] 45)).heap.size = w.heap.size + 1 by simp] at b1
  exact ⟨(Blk.new w _ _).below ((Below.refl _ _).alloc (Nat.le_refl _) _), b1, ((Below.refl _ _).alloc (Nat.le_refl _) _).alloc (by simp) _⟩
theorem tk_end {w W : World} {x0 x1 x2 x3 x4 : Value} {t : TypeId} (h : Blk W w.heap.size #[x0, x1, x2, x3, x4] t) (hb : Below w.heap.size w W) (v0 v1 v2 v3 v4 : Value) :
    Below w.heap.size w (st5 W w.heap.size v0 v1 v2 v3 v4) ∧ (st5 W w.heap.size v0 v1 v2 v3 v4).cell? ⟨w.heap.size, 0, none⟩ = some v0 ∧ (st5 W w.heap.size v0 v1 v2 v3 v4).cell? ⟨w.heap.size, 1, none⟩ = some v1 ∧ (st5 W w.heap.size v0 v1 v2 v3 v4).cell? ⟨w.heap.size, 2, none⟩ = some v2 ∧ (st5 W w.heap.size v0 v1 v2 v3 v4).cell? ⟨w.heap.size, 3, none⟩ = some v3 ∧ (st5 W w.heap.size v0 v1 v2 v3 v4).cell? ⟨w.heap.size, 4, none⟩ = some v4 := by
  have k := set5 h v0 v1 v2 v3 v4
  exact ⟨below5 hb (Nat.le_refl _) v0 v1 v2 v3 v4, by simpa using k.cell 0, by simpa using k.cell 1, by simpa using k.cell 2, by simpa using k.cell 3, by simpa using k.cell 4⟩
set_option maxHeartbeats 2000000 in
/- tags that close, of a name -/
theorem rtag_cs (s : ByteArray) (p : Nat) (w : World) (x l1 : List UInt8) (hs : s.size ≤ 65536) (hp' : p + 1 < s.size) (h47 : s[p + 1] = 47) (hn : nm (s.data.toList.drop (p + 2)) = some (x, l1)) (hv : Vt (s.data.toList.drop p)) :
    Calls Tryd.prog 23 #[.string s, .int .i64 (p : Int)] w (RtR w p s.size (s.data.toList.drop p) (if hp [62] (bk l1) then some (2, x, [], tp [62] (bk l1)) else none)) := by
  have hs' : (s.size : Int) ≤ 65536 := by omega
  have CN := hide (fun w => rname_any s (p + 2) w (by omega) (by omega))
  have CB := hide (fun n w h => rblanks_any s n w (by omega) h)
  have CC := hide (fun a b w h1 h2 h3 => rcontrols_any s a b w hs h1 h2 h3)
  have hnm := nmL_nm (s.data.toList.drop (p + 2))
  rw [hn] at hnm
  obtain ⟨n, hn1⟩ : ∃ n, nmL (s.data.toList.drop (p + 2)) = n := ⟨_, rfl⟩
  have hnl := nmL_le (s.data.toList.drop (p + 2))
  rw [List.length_drop, size_l] at hnl
  rw [hn1] at CN hnm hnl
  obtain ⟨p1, hp1⟩ : ∃ p1, p + 1 = p1 := ⟨_, rfl⟩
  obtain ⟨p2, hp2⟩ : ∃ p2, p + 2 = p2 := ⟨_, rfl⟩
  rw [hp2] at CN hnm hnl
  have e1 : (p : Int) + 1 = (p1 : Int) := by omega
  have e2 : (p1 : Int) + 1 = (p2 : Int) := by omega
  have hlt : (p1 : Int) < (s.size : Int) := by omega
  have hlt' : p1 < s.size := by omega
  have f47 : ((s[p1].toNat : Int) == 47) = true := by subst hp1; rw [h47]; rfl
  have hok : 1 ≤ n ∧ n ≤ 16 := by
    by_cases h : 1 ≤ n ∧ n ≤ 16
    · exact h
    · rw [if_neg h] at hnm; simp at hnm
  rw [if_pos hok] at hnm
  simp only [Option.some.injEq, Prod.mk.injEq] at hnm
  obtain ⟨hx, hl1⟩ := hnm
  obtain ⟨p3, hp3⟩ : ∃ p3, p2 + n = p3 := ⟨_, rfl⟩
  have e3 : (p2 : Int) + (n : Int) = (p3 : Int) := by omega
  rw [List.drop_drop, hp3] at hl1
  have o1 : ¬ (n : Int) < 1 := by omega
  have o2 : ¬ (16 : Int) < (n : Int) := by omega
  have o3 : (p2 : Int) ≤ (p3 : Int) := by omega
  have o4 : (p3 : Int) ≤ (s.size : Int) := by omega
  have o5 : (0 : Int) ≤ (p2 : Int) := by omega
  have hX : s.extract p2 p3 = ⟨x.toArray⟩ := by rw [str_eq, Lib.extract_data, mk_l, hx]; congr 1; omega
  obtain ⟨X, hXX⟩ : ∃ X : ByteArray, (⟨x.toArray⟩ : ByteArray) = X := ⟨_, rfl⟩
  rw [hXX] at hX
  have HX := hide hXX
  have CB3 := hide (fun w => CB.out p3 w (by omega))
  obtain ⟨g1, g2, g3⟩ := bkP_le s.data.toList p3 (by rw [size_l]; omega)
  obtain ⟨p4, hp4⟩ : ∃ p4, bkP s.data.toList p3 = p4 := ⟨_, rfl⟩
  rw [hp4] at g1 g2 g3 CB3
  rw [size_l] at g2
  rw [← hl1] at g3
  rw [← g3]
  have g2' : (p4 : Int) ≤ (s.size : Int) := by omega
  have HV := hide hv
  have HG := hide (And.intro hn (And.intro g3 (And.intro hl1 g1)))
  obtain ⟨R0, hR0⟩ : ∃ R0, (if hp [62] (s.data.toList.drop p4) = true then some ((2 : Int), x, ([] : List At), tp [62] (s.data.toList.drop p4)) else none) = R0 := ⟨_, rfl⟩
  rw [hR0]
  have HR0 := hide hR0
  obtain ⟨W0, W1, WB⟩ := two_tk w #[.int .i64 2, .string X, .string ⟨#[]⟩, .slice none 0 0, .int .i64 (p : Int)]
  have WS : ((w.alloc (.cells #[.int .i64 0, .string ⟨#[]⟩, .string ⟨#[]⟩, .slice none 0 0, .int .i64 0] 45)).alloc (.cells #[.int .i64 2, .string X, .string ⟨#[]⟩, .slice none 0 0, .int .i64 (p : Int)] 45)).heap.size = w.heap.size + 2 := by simp
  clear hn hn1 hx hl1 g3 hp4 CB hv hXX hR0 hp1 hp2 hp3 h47 hp' hs
  go_enter Tryd.func23, Tryd.ntmps23
  go_wp2_with (first
    | (go_at_call 43; refine (CN.out _).mono ?_; rintro e w1 ⟨rfl, hw⟩; subst hw))
  generalize ((w.alloc (.cells #[.int .i64 0, .string ⟨#[]⟩, .string ⟨#[]⟩, .slice none 0 0, .int .i64 0] 45)).alloc (.cells #[.int .i64 2, .string X, .string ⟨#[]⟩, .slice none 0 0, .int .i64 (p : Int)] 45)) = W at W0 W1 WB WS ⊢
  go_loopw [1] (fun va wr => va = .int .i64 (p3 : Int) ∧ wr = W) (fun va _ => 0)
  case atStart => exact ⟨rfl, rfl⟩
  case round =>
    obtain ⟨rfl, rfl⟩ := hrel
    have A0 := W1.cell 0; have A1 := W1.cell 1; have A2 := W1.cell 2; have A3 := W1.cell 3; have A4 := W1.cell 4
    simp at A0 A1 A2 A3 A4
    have F0 := W0.frozen 0; have F1 := W0.frozen 1; have F2 := W0.frozen 2; have F3 := W0.frozen 3; have F4 := W0.frozen 4
    have Z0 := W0.cell 0; have Z1 := W0.cell 1; have Z2 := W0.cell 2; have Z3 := W0.cell 3; have Z4 := W0.cell 4
    simp at Z0 Z1 Z2 Z3 Z4
    have HW0 := hide W0
    have HW1 := hide W1
    have HWB := hide WB
    clear W0 W1 WB
    by_cases c4 : p4 < s.size
    · have c4' : (p4 : Int) < (s.size : Int) := by omega
      have c4d : decide (s.size ≤ p4) = false := decide_eq_false (by omega)
      by_cases e62 : s[p4] = 62
      · obtain ⟨H, hH⟩ : ∃ H, hc ((s.data.toList.drop p).take (p4 - p)) = H := ⟨_, rfl⟩
        have hg := HG.out.2.2.2
        have h62 : (s.data.toList.drop p)[p4 - p]? = some 62 := by
          rw [List.getElem?_drop, show p + (p4 - p) = p4 by omega, List.getElem?_eq_getElem (by rw [size_l]; exact c4)]
          exact congrArg some e62
        have hvt := (HV.out.cut (p4 - p) (fun b hb => by rw [h62] at hb; injection hb with hb; rw [← hb]; decide)).1
        have CX := fun w => CC.out p p4 w (by omega) (by omega) hvt
        rw [hH] at CX
        have CCX := hide CX
        have hT := at_tp s p4 62 _ rfl (by rw [at_hp s p4 62 _ rfl c4, e62]; rfl)
        have hr := HR0.out
        rw [at_hp s p4 62 _ rfl c4, if_pos (by rw [e62]; rfl), ← hT] at hr
        subst hr
        have HHC : Hid (HC (s.data.toList.drop p) (s.data.toList.drop (p4 + 1)) = H) := hide (by
          unfold HC
          rw [List.length_drop, List.length_drop, size_l, show s.size - p - (s.size - (p4 + 1)) = (p4 - p) + 1 by omega, List.take_add_one, h62, hc_app hvt, hH]
          show (H || hc [62]) = H
          rw [show hc [62] = false by decide, Bool.or_false])
        have f62 : ((s[p4].toNat : Int) == 62) = true := by rw [e62]; rfl
        obtain ⟨p5, hp5⟩ : ∃ p5, p4 + 1 = p5 := ⟨_, rfl⟩
        have e5 : (p4 : Int) + 1 = (p5 : Int) := by omega
        have e6 : IntKind.i64.wrap (p5 : Int) = (p5 : Int) := by rw [IntKind.wrap_i64]; omega
        have e5' : IntKind.i64.wrap ((p4 : Int) + 1) = (p5 : Int) := by rw [IntKind.wrap_i64]; omega
        have HVV := hide (Below.refl wr.heap.size wr)
        have KT := hide (show ∀ u, Below wr.heap.size wr u → (u.cell? ⟨w.heap.size + 1, 0, none⟩ = some (.int .i64 2) ∧ u.cell? ⟨w.heap.size + 1, 1, none⟩ = some (.string X) ∧ u.cell? ⟨w.heap.size + 1, 2, none⟩ = some (.string ⟨#[]⟩) ∧ u.cell? ⟨w.heap.size + 1, 3, none⟩ = some (.slice none 0 0) ∧ u.cell? ⟨w.heap.size + 1, 4, none⟩ = some (.int .i64 (p : Int)) ∧ u.cell? ⟨w.heap.size, 0, none⟩ = some (.int .i64 0) ∧ u.cell? ⟨w.heap.size, 1, none⟩ = some (.string ⟨#[]⟩) ∧ u.cell? ⟨w.heap.size, 2, none⟩ = some (.string ⟨#[]⟩) ∧ u.cell? ⟨w.heap.size, 3, none⟩ = some (.slice none 0 0) ∧ u.cell? ⟨w.heap.size, 4, none⟩ = some (.int .i64 0) ∧ u.frozen? ⟨w.heap.size, 0, none⟩ = false ∧ u.frozen? ⟨w.heap.size, 1, none⟩ = false ∧ u.frozen? ⟨w.heap.size, 2, none⟩ = false ∧ u.frozen? ⟨w.heap.size, 3, none⟩ = false ∧ u.frozen? ⟨w.heap.size, 4, none⟩ = false) from fun u hu => by
          have k0 := HW0.out.below hu
          have k1 := HW1.out.below hu
          exact ⟨by simpa using k1.cell 0, by simpa using k1.cell 1, by simpa using k1.cell 2, by simpa using k1.cell 3, by simpa using k1.cell 4, by simpa using k0.cell 0, by simpa using k0.cell 1, by simpa using k0.cell 2, by simpa using k0.cell 3, by simpa using k0.cell 4, k0.frozen 0, k0.frozen 1, k0.frozen 2, k0.frozen 3, k0.frozen 4⟩)
        clear hT CX hvt h62 hg hH HR0 e62 CC
        go_upto_region 16 with (first
          | (go_at_call 44; refine (CB3.out _).mono ?_; rintro e w1 ⟨rfl, hw⟩; subst hw))
        have KB := hide (show ∀ u, Blk u (w.heap.size + 1) #[.int .i64 2, .string X, .string ⟨#[]⟩, .slice none 0 0, .int .i64 (p : Int)] 45 → (u.cell? ⟨w.heap.size + 1, 0, none⟩ = some (.int .i64 2) ∧ u.cell? ⟨w.heap.size + 1, 1, none⟩ = some (.string X) ∧ u.cell? ⟨w.heap.size + 1, 2, none⟩ = some (.string ⟨#[]⟩) ∧ u.cell? ⟨w.heap.size + 1, 3, none⟩ = some (.slice none 0 0) ∧ u.cell? ⟨w.heap.size + 1, 4, none⟩ = some (.int .i64 (p : Int))) from fun u k1 => ⟨by simpa using k1.cell 0, by simpa using k1.cell 1, by simpa using k1.cell 2, by simpa using k1.cell 3, by simpa using k1.cell 4⟩)
        have NE := hide (show w.heap.size + 1 ≠ w.heap.size by omega)
        go_region_held3 (fun u => u.cell? ⟨w.heap.size + 1, 0, none⟩ = some (.int .i64 2) ∧ u.cell? ⟨w.heap.size + 1, 1, none⟩ = some (.string X) ∧ u.cell? ⟨w.heap.size + 1, 2, none⟩ = some (.string ⟨#[]⟩) ∧ u.cell? ⟨w.heap.size + 1, 3, none⟩ = some (.slice none 0 0) ∧ u.cell? ⟨w.heap.size + 1, 4, none⟩ = some (.int .i64 (p : Int))) (exact KB.out _ (by repeat (first | (with_reducible exact K1.out) | (with_reducible exact HW1.out) | (with_reducible refine Blk.other ?_ NE.out _ _) | (with_reducible refine bdr ?_)))) ((go_at_call 45; refine (CCX.out _).mono ?_; rintro e wy ⟨rfl, hy⟩; replace HVV := hide (below_d HVV.out hy rfl rfl rfl rfl); clear hy; have k1 := HW1.out.below HVV.out; have k0 := HW0.out.below HVV.out; have a0 := k1.cell 0; have a1 := k1.cell 1; have a2 := k1.cell 2; have a3 := k1.cell 3; have a4 := k1.cell 4; have z0 := k0.cell 0; have z1 := k0.cell 1; have z2 := k0.cell 2; have z3 := k0.cell 3; have z4 := k0.cell 4; simp at a0 a1 a2 a3 a4 z0 z1 z2 z3 z4; have f0 := k0.frozen 0; have f1 := k0.frozen 1; have f2 := k0.frozen 2; have f3 := k0.frozen 3; have f4 := k0.frozen 4; have K1 := hide k1; clear k0 k1))
        go_wp2_with fail
        obtain ⟨FB, G0, G1, G2, G3, G4⟩ := tk_end (HW0.out.below HVV.out) (HWB.out.trans (HVV.out.mono HWB.out.size)) (.int .i64 2) (.string X) (.string ⟨#[]⟩) (.slice none 0 0) (.int .i64 (p : Int))
        unfold st5 at FB G0 G1 G2 G3 G4
        generalize (((((wy.setCell ⟨w.heap.size, 0, none⟩ (.int .i64 2)).setCell ⟨w.heap.size, 1, none⟩ (.string X)).setCell ⟨w.heap.size, 2, none⟩ (.string ⟨#[]⟩)).setCell ⟨w.heap.size, 3, none⟩ (.slice none 0 0)).setCell ⟨w.heap.size, 4, none⟩ (.int .i64 (p : Int))) = wf at FB G0 G1 G2 G3 G4 ⊢
        have HN : Hid (((p5 : Nat) : Int) = ((s.size - (s.data.toList.drop (p4 + 1)).length : Nat) : Int)) := hide (by rw [List.length_drop, size_l]; omega)
        exact bodyPost_ret (v := .tuple #[.agg #[.int .i64 2, .string X, .string ⟨#[]⟩, .slice none 0 0, .int .i64 (p : Int)], .int .i64 (p5 : Int), .bool (!H)]) (by simp [results, Tryd.results23, go_sem, G0, G1, G2, G3, G4, e6]) rfl ⟨FB, .slice none 0 0, by rw [HHC.out, HX.out, HN.out], ARow.nil _ _⟩
      · have f62 : ((s[p4].toNat : Int) == 62) = false := by
          rw [beq_eq_false_iff_ne]; intro h; apply e62; apply UInt8.toNat_inj.1; show s[p4].toNat = 62; omega
        have hr := HR0.out
        rw [at_hp s p4 62 _ rfl c4, if_neg (by rw [beq_iff_eq]; exact e62)] at hr
        subst hr
        clear HR0 e62
        go_wp2_with (first
          | (go_at_call 44; refine (CB3.out _).mono ?_; rintro e w1 ⟨rfl, hw⟩; subst hw))
        obtain ⟨FB, G0, G1, G2, G3, G4⟩ := tk_end HW0.out HWB.out (.int .i64 2) (.string X) (.string ⟨#[]⟩) (.slice none 0 0) (.int .i64 (p : Int))
        unfold st5 at FB G0 G1 G2 G3 G4
        exact bodyPost_ret (v := .tuple #[.agg #[.int .i64 2, .string X, .string ⟨#[]⟩, .slice none 0 0, .int .i64 (p : Int)], .int .i64 0, .bool false]) (by simp [results, Tryd.results23, go_sem, G0, G1, G2, G3, G4]) rfl ⟨FB, _, _, _, _, _, _, _, _, rfl⟩
    · have c4' : ¬ (p4 : Int) < (s.size : Int) := by omega
      have c4d : decide (s.size ≤ p4) = true := decide_eq_true (by omega)
      have hr := HR0.out
      rw [at_hpe s p4 62 _ rfl (by omega), if_neg (by simp)] at hr
      subst hr
      clear HR0
      go_wp2_with (first
        | (go_at_call 44; refine (CB3.out _).mono ?_; rintro e w1 ⟨rfl, hw⟩; subst hw))
      obtain ⟨FB, G0, G1, G2, G3, G4⟩ := tk_end HW0.out HWB.out (.int .i64 2) (.string X) (.string ⟨#[]⟩) (.slice none 0 0) (.int .i64 (p : Int))
      unfold st5 at FB G0 G1 G2 G3 G4
      exact bodyPost_ret (v := .tuple #[.agg #[.int .i64 2, .string X, .string ⟨#[]⟩, .slice none 0 0, .int .i64 (p : Int)], .int .i64 0, .bool false]) (by simp [results, Tryd.results23, go_sem, G0, G1, G2, G3, G4]) rfl ⟨FB, _, _, _, _, _, _, _, _, rfl⟩
end Go.Proofs.YtpmdekhjodhdmaaDoor.K17
