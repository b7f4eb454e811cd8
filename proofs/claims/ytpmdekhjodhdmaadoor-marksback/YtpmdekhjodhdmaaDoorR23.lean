/-
  Joined: K17Bq, K17Br.
-/
import Derived.Test.YtpmdekhjodhdmaaDoorR16
import Derived.Test.YtpmdekhjodhdmaaDoorR22
namespace Go.Proofs.YtpmdekhjodhdmaaDoor.K17
open Go.RowKit Go.Proofs.YtpmdekhjodhdmaaDoor
open Go.Lib
set_option linter.unusedVariables false
set_option linter.unusedSimpArgs false
set_option maxRecDepth 8000
def tkOf (t : Tg) : Tk := ⟨t.k, t.x, t.t, t.ps, 0⟩
def okC : List Tg → Prop
  | [] => True
  | t :: r => okT t = true ∧ (t.k = 4 → ∀ t' q, r = t' :: q → t'.k ≠ 4) ∧ okC r
theorem okL_okC {ts : List Tg} (h : okL ts = true) : okC ts := by
  unfold okL at h
  have hall := allN_iff.1 h
  have key : ∀ (k : Nat), k ≤ ts.length → okC (ts.drop (ts.length - k)) := by
    intro k
    induction k with
    | zero => intro _; rw [List.drop_eq_nil_of_le (by omega)]; trivial
    | succ k ih =>
      intro hk
      have h1 := ih (by omega)
      obtain ⟨j, hj⟩ : ∃ j, ts.length - (k + 1) = j := ⟨_, rfl⟩
      rw [show ts.length - k = j + 1 by omega] at h1
      rw [hj]
      have hlt : j < ts.length := by omega
      have ha := hall j hlt
      unfold okL1 at ha
      rw [List.getD_eq_getElem?_getD, List.getElem?_eq_getElem hlt] at ha
      simp only [Option.getD_some, Bool.and_eq_true] at ha
      rw [List.drop_eq_getElem_cons hlt]
      refine ⟨ha.1, fun h4 t' q e => ?_, h1⟩
      have hlt2 : j + 1 < ts.length := by
        have := congrArg List.length e
        rw [List.length_drop, List.length_cons] at this
        omega
      rw [List.drop_eq_getElem_cons hlt2] at e
      injection e with e _
      have hb := hall (j + 1) hlt2
      unfold okL1 two at hb
      rw [List.getD_eq_getElem?_getD, List.getElem?_eq_getElem hlt2, List.getD_eq_getElem?_getD, Nat.add_sub_cancel, List.getElem?_eq_getElem hlt] at hb
      simp only [Option.getD_some, Bool.and_eq_true, Bool.not_eq_true'] at hb
      have h2 := hb.2
      rw [h4, e, decide_eq_true (show 0 < j + 1 by omega)] at h2
      simpa using h2
  have := key ts.length (Nat.le_refl _)
  rw [Nat.sub_self] at this
  simpa using this
theorem okC_okL {ts : List Tg} (h : okC ts) : okL ts = true := by
  have key : ∀ (ts : List Tg), okC ts → ∀ i, i < ts.length → okT (ts.getD i tg0) = true ∧ (i + 1 < ts.length → (ts.getD i tg0).k = 4 → (ts.getD (i + 1) tg0).k ≠ 4) := by
    intro ts
    induction ts with
    | nil => intro _ i hi; simp at hi
    | cons t r ih =>
      intro h i hi
      obtain ⟨h1, h2, h3⟩ := h
      cases i with
      | zero =>
        refine ⟨by simpa using h1, fun hl h4 => ?_⟩
        cases r with
        | nil => simp at hl
        | cons t' q => simpa using h2 (by simpa using h4) t' q rfl
      | succ i =>
        have := ih h3 i (by simpa using hi)
        simpa using this
  have k := key ts h
  unfold okL
  rw [allN_iff]
  intro i hi
  unfold okL1 two
  rw [(k i hi).1, Bool.true_and]
  cases i with
  | zero => simp
  | succ i =>
    have h2 := (k i (by omega)).2 hi
    rw [Nat.add_sub_cancel]
    by_cases h4 : (ts.getD i tg0).k = 4
    · rw [show ((ts.getD (i + 1) tg0).k == 4) = false by rw [beq_eq_false_iff_ne]; exact h2 h4]; simp
    · rw [show ((ts.getD i tg0).k == 4) = false by rw [beq_eq_false_iff_ne]; exact h4]; simp
theorem txT_60 {t : Tg} (h : t.k ≠ 4) : ∃ q, txT t = 60 :: q := by
  unfold txT
  rw [if_neg h]
  split
  · exact ⟨_, rfl⟩
  · exact ⟨_, rfl⟩
theorem txT_ne {t : Tg} (h : okT t = true) : txT t ≠ [] := by
  by_cases h4 : t.k = 4
  · unfold okT at h
    rw [if_pos h4] at h
    simp only [Bool.and_eq_true, decide_eq_true_eq, Bool.not_eq_true', decide_eq_false_iff_not] at h
    unfold txT
    rw [if_pos h4]
    exact gesc_ne h.1.2
  · obtain ⟨q, hq⟩ := txT_60 h4
    rw [hq]; simp
theorem vt_all {x : List UInt8} (h : ∀ b ∈ x, b.toNat < 128) : Vt x := by
  induction x with
  | nil => exact .nil
  | cons b r ih => exact Vt.cons1 (h b (by simp)) (ih fun c hc => h c (by simp [hc]))
theorem isNm_vt {x : List UInt8} (h : isNm x = true) : Vt x := vt_all fun b hb => by
  have := List.all_eq_true.1 (isNm_parts h).2.2.2 b hb
  exact vt_nmB this
theorem ats_vt : ∀ (ps done : List At), okB done ps → Vt (ps.flatMap aT)
  | [], _, _ => .nil
  | p :: ps, done, h => by
    obtain ⟨h1, _, h3, _, h5⟩ := h
    rw [List.flatMap_cons]
    refine Vt.app ?_ (ats_vt ps _ h5)
    unfold aT
    exact (((Vt.one (by decide)).app (isNm_vt h1)).app (vt_all (by decide))).app (esc_vt (pln_parts h3).1) |>.app (Vt.one (by decide))
theorem txT_vt {t : Tg} (h : okT t = true) : Vt (txT t) := by
  unfold okT at h
  unfold txT
  split at h
  · rename_i h4
    rw [if_pos h4]
    simp only [Bool.and_eq_true] at h
    exact esc_vt (pln_parts h.2).1
  · rename_i h4
    rw [if_neg h4]
    split at h
    · rename_i h2
      rw [if_pos h2]
      simp only [Bool.and_eq_true] at h
      exact ((vt_all (by decide)).app (isNm_vt h.1.1)).app (Vt.one (by decide))
    · rename_i h2
      rw [if_neg h2]
      split at h
      · simp only [Bool.and_eq_true] at h
        refine ((((Vt.one (by decide)).app (isNm_vt h.1.1)).app (ats_vt _ _ (okA_okB h.1.2))).app ?_).app (Vt.one (by decide))
        split
        · exact Vt.one (by decide)
        · exact .nil
      · simp at h
theorem prL_vt : ∀ (ts : List Tg), okC ts → Vt (ts.flatMap txT)
  | [], _ => .nil
  | t :: r, h => by rw [List.flatMap_cons]; exact (txT_vt h.1).app (prL_vt r h.2.2)
theorem sc_print : ∀ (ts : List Tg) (p : Nat) (acc : List Tk) (R : Except Nat (List Tk)), okC ts → SC (ts.flatMap txT) p acc R → ∃ us, R = .ok (acc ++ us) ∧ us.map noA = ts.map tkOf
  | [], p, acc, R, _, h => ⟨[], by rw [List.append_nil]; exact h.done, rfl⟩
  | t :: r, p, acc, R, h, hs => by
    obtain ⟨h1, h2, h3⟩ := h
    rw [List.flatMap_cons] at hs
    have hne : txT t ++ r.flatMap txT ≠ [] := by
      intro e
      exact txT_ne h1 (List.append_eq_nil_iff.1 e).1
    have ht := tok_txT t (r.flatMap txT) h1 (fun h4 => by
      cases r with
      | nil => exact Or.inl rfl
      | cons t' q =>
        obtain ⟨z, hz⟩ := txT_60 (h2 h4 t' q rfl)
        exact Or.inr ⟨z ++ q.flatMap txT, by rw [List.flatMap_cons, hz]; rfl⟩)
    have hst := hs.step hne ht
    rw [List.drop_left' rfl] at hst
    obtain ⟨us, e1, e2⟩ := sc_print r _ _ _ h3 hst
    refine ⟨⟨t.k, t.x, t.t, t.ps, p⟩ :: us, by rw [e1]; simp, ?_⟩
    rw [List.map_cons, List.map_cons, e2]
    rfl
theorem scR_print {ts : List Tg} (h : okL ts = true) : ∃ us, scR (ts.flatMap txT) = (us, 0, 0) ∧ us.map noA = ts.map tkOf := by
  have hc := okL_okC h
  obtain ⟨us, e1, e2⟩ := sc_print ts 0 [] _ hc (SC.start _)
  refine ⟨us, ?_, e2⟩
  unfold scR
  rw [if_pos ((rd_vt _).2.2 (prL_vt ts hc)), e1]
  rfl
theorem pl_pln : ∀ (f : Nat) (l : List UInt8) (p : Nat) (acc t : List UInt8), l.length ≤ f → Vt l → plF f l p acc = .ok t → Vt acc → hc acc = false → Vt t ∧ hc t = false ∧ t.length ≤ acc.length + 2 * l.length ∧ acc.length ≤ t.length ∧ (l ≠ [] → acc.length < t.length)
  | 0, l, p, acc, t, hf, hv, h, ha, hh => by
    obtain rfl : l = [] := List.length_eq_zero_iff.1 (by omega)
    injection h with h
    subst h
    exact ⟨ha, hh, by simp, Nat.le_refl _, by simp⟩
  | f + 1, l, p, acc, t, hf, hv, h, ha, hh => by
    rw [plF] at h
    split at h
    · rename_i hl
      injection h with h
      subst h
      subst hl
      exact ⟨ha, hh, by simp, Nat.le_refl _, by simp⟩
    · rename_i hl
      have hpos := List.length_pos_iff.2 hl
      split at h
      · rename_i h38
        cases he : ent l with
        | none => rw [he] at h; simp at h
        | some cn =>
          obtain ⟨c, n⟩ := cn
          rw [he] at h
          simp only at h
          obtain ⟨hP, hct⟩ := ent_P he
          obtain ⟨hn1, hn2⟩ := ent_bd he
          have hvd : Vt (l.drop n) := ent_vt hv he
          have hev : Vt (e8 c) := by have := Vt.cons c [] hP .nil; rwa [List.append_nil] at this
          have hlen := (code8.len c)
          have hle : (e8 c).length ≤ 4 := (code8.len c).2
          have hpe := List.length_pos_iff.2 (e8_ne c)
          have ih := pl_pln f _ _ _ _ (by rw [List.length_drop]; omega) hvd h (ha.app hev) (by
            rw [hc_app ha, hh, Bool.false_or]
            have := hc_cons c [] hP
            rw [List.append_nil, hct] at this
            rw [this]; rfl)
          obtain ⟨i1, i2, i3, i4, i5⟩ := ih
          rw [List.length_append] at i3 i4
          rw [List.length_drop] at i3
          exact ⟨i1, i2, by omega, by omega, fun _ => by omega⟩
      · rename_i h38
        split at h
        · simp at h
        · rename_i hct
          have hst := hv.step hl
          obtain ⟨c, r, hlr, hP, hvr, hd⟩ := hst
          have hd1 : (dN l).1 = c := by rw [hd]
          have hd2 : (dN l).2 = (e8 c).length := by rw [hd]
          rw [hd1] at hct
          rw [hd2] at h
          have htk : l.take (e8 c).length = e8 c := by rw [hlr]; exact List.take_left' rfl
          have hdr : l.drop (e8 c).length = r := by rw [hlr]; exact List.drop_left' rfl
          rw [htk, hdr] at h
          have hev : Vt (e8 c) := by have := Vt.cons c [] hP .nil; rwa [List.append_nil] at this
          have hpe := List.length_pos_iff.2 (e8_ne c)
          have hll : l.length = (e8 c).length + r.length := by rw [hlr, List.length_append]
          have ih := pl_pln f _ _ _ _ (by omega) hvr h (ha.app hev) (by
            rw [hc_app ha, hh, Bool.false_or]
            have := hc_cons c [] hP
            rw [List.append_nil, Bool.eq_false_iff.2 hct] at this
            rw [this]; rfl)
          obtain ⟨i1, i2, i3, i4, i5⟩ := ih
          rw [List.length_append] at i3 i4
          exact ⟨i1, i2, by omega, by omega, fun _ => by omega⟩
theorem nm_ok {l x r : List UInt8} (h : nm l = some (x, r)) : isNm x = true ∧ l = x ++ r := by
  refine ⟨?_, (nm_len h).2⟩
  unfold nm at h
  split at h
  · rename_i hn
    simp only [Option.some.injEq, Prod.mk.injEq] at h
    rw [← h.1, ← isN_isNm]; exact hn
  · simp at h
theorem vt_pln {t : List UInt8} (h : Vt t) (hh : hc t = false) : pln t = true := by
  unfold pln; rw [(valid_iff t).2 h, hh]; rfl
theorem pl_ok {l t : List UInt8} (hv : Vt l) (h : pl l = .ok t) : pln t = true ∧ t.length ≤ 2 * l.length ∧ (l ≠ [] → t ≠ []) := by
  obtain ⟨h1, h2, h3, _, h5⟩ := pl_pln l.length l 0 [] t (Nat.le_refl _) hv h .nil rfl
  refine ⟨vt_pln h1 h2, by simpa using h3, fun hl e => ?_⟩
  have := h5 hl
  rw [e] at this
  simp at this
theorem va_ok {l t r : List UInt8} (hv : Vt l) (h : va l = some (t, r)) : pln t = true ∧ t.length + r.length * 2 + 2 ≤ 2 * l.length := by
  unfold va at h
  split at h
  · rename_i hm
    split at h
    · simp at h
    · cases hp : pl (upto 34 l) with
      | error p => rw [hp] at h; simp at h
      | ok u =>
        rw [hp] at h
        simp only [Option.some.injEq, Prod.mk.injEq] at h
        obtain ⟨rfl, rfl⟩ := h
        obtain ⟨g1, g2, _⟩ := pl_ok (vt_split (b := 34) (by decide) hv).1 hp
        have := upto_lt hm
        exact ⟨g1, by rw [List.length_drop]; omega⟩
  · simp at h
theorem att_ok {l x t r : List UInt8} (hv : Vt l) (h : att l = some (x, t, r)) : isNm x = true ∧ pln t = true ∧ x.length + t.length + r.length * 2 + 2 ≤ 2 * l.length := by
  unfold att at h
  cases hn : nm l with
  | none => rw [hn] at h; simp at h
  | some p =>
    obtain ⟨y, q⟩ := p
    rw [hn] at h
    simp only at h
    split at h
    · rename_i h61
      split at h
      · rename_i h34
        cases hva : va (tp [34] (bk (tp [61] (bk q)))) with
        | none => rw [hva] at h; simp at h
        | some u =>
          obtain ⟨u1, u2⟩ := u
          rw [hva] at h
          simp only [Option.some.injEq, Prod.mk.injEq] at h
          obtain ⟨rfl, rfl, rfl⟩ := h
          obtain ⟨g1, g2⟩ := nm_ok hn
          have hv2 := vt_tp1 (c := 34) (by decide) (vt_bk (vt_tp1 (c := 61) (by decide) (vt_bk (vt_nm hv hn)) h61)) h34
          obtain ⟨g3, g4⟩ := va_ok hv2 hva
          have h1 := congrArg List.length g2
          rw [List.length_append] at h1
          have := bk_le q; have := tp_len [61] (bk q); have := bk_le (tp [61] (bk q)); have := tp_len [34] (bk (tp [61] (bk q)))
          exact ⟨g1, g3, by omega⟩
      · simp at h
    · simp at h
theorem okA_snoc {ps : List At} {p : At} (h : okA ps = true) (hl : ps.length < 16) (h1 : isNm p.1 = true) (h2 : nmd ps p.1 = false) (h3 : pln p.2 = true) : okA (ps ++ [p]) = true := by
  unfold okA at h ⊢
  rw [Bool.and_eq_true, decide_eq_true_eq] at h
  rw [List.length_append, show [p].length = 1 from rfl, decide_eq_true (by omega), Bool.true_and, allN_succ, Bool.and_eq_true]
  constructor
  · rw [allN_iff]
    intro i hi
    have := allN_iff.1 h.2 i hi
    unfold okA1 at this ⊢
    rw [List.getD_eq_getElem?_getD, List.getElem?_append_left hi, ← List.getD_eq_getElem?_getD, List.take_append_of_le_length (by omega)]
    exact this
  · unfold okA1
    rw [List.getD_eq_getElem?_getD, List.getElem?_append_right (Nat.le_refl _), Nat.sub_self]
    simp only [List.getElem?_cons_zero, Option.getD_some]
    rw [List.take_left' rfl, h1, h2, h3]
    rfl
theorem szA_snoc (ps : List At) (p : At) : szA (ps ++ [p]) = szA ps + (p.1.length + p.2.length) := by unfold szA; simp
theorem opF_ok : ∀ (f : Nat) (l : List UInt8) (done : List At) {k : Int} {qs : List At} {r : List UInt8}, Vt l → okA done = true → opF f l done = some (k, qs, r) → okA qs = true ∧ (k = 1 ∨ k = 3) ∧ szA qs + qs.length + 3 * r.length ≤ szA done + done.length + 3 * l.length
  | 0, l, done, k, qs, r, _, _, h => by simp [opF] at h
  | f + 1, l, done, k, qs, r, hv, hd, h => by
    rw [opF] at h
    have hb := bk_le l
    split at h
    · simp only [Option.some.injEq, Prod.mk.injEq] at h
      obtain ⟨rfl, rfl, rfl⟩ := h
      have := tp_len [62] (bk l)
      exact ⟨hd, Or.inl rfl, by omega⟩
    · split at h
      · simp only [Option.some.injEq, Prod.mk.injEq] at h
        obtain ⟨rfl, rfl, rfl⟩ := h
        have := tp_len [47, 62] (bk l)
        exact ⟨hd, Or.inr rfl, by omega⟩
      · split at h
        · rename_i hc
          cases ha : att (bk l) with
          | none => rw [ha] at h; simp at h
          | some u =>
            obtain ⟨x, t, q⟩ := u
            rw [ha] at h
            simp only at h
            split at h
            · simp at h
            · rename_i hn
              obtain ⟨g1, g2, g3⟩ := att_ok (vt_bk hv) ha
              have g4 := att_len ha
              have hd2 := okA_snoc (p := (x, t)) hd hc.2 g1 (Bool.eq_false_iff.2 hn) g2
              obtain ⟨i1, i2, i3⟩ := opF_ok f q (done ++ [(x, t)]) (g4.2 (vt_bk hv)) hd2 h
              rw [szA_snoc, List.length_append] at i3
              simp only [List.length_cons, List.length_nil] at i3
              exact ⟨i1, i2, by omega⟩
        · simp at h
def tgOf (t : Tk) : Tg := ⟨t.k, t.x, t.t, t.ps, (t.a : Int)⟩
theorem szA_take40 {ps : List At} (h : okA ps = true) : szA (ps.take 40) = szA ps := by
  have := (okA_pln h).1
  rw [List.take_of_length_le (by omega)]
theorem tagV_ok {l x r : List UInt8} {k : Int} {ps : List At} (a : Int) (hv : Vt l) (h : tagV l = some (k, x, ps, r)) : okT ⟨k, x, [], ps, a⟩ = true ∧ k ≠ 4 ∧ szT ⟨k, x, [], ps, a⟩ + 4 * r.length ≤ 4 * l.length := by
  unfold tagV at h
  split at h
  · rename_i h60
    have hv1 := vt_tp1 (c := 60) (by decide) hv h60
    have hl1 := congrArg List.length (tp_one h60)
    rw [List.length_cons] at hl1
    split at h
    · rename_i h47
      have hv2 := vt_tp1 (c := 47) (by decide) hv1 h47
      have hl2 := tp_len [47] (tp [60] l)
      cases hc : clo (tp [47] (tp [60] l)) with
      | none => rw [hc] at h; simp at h
      | some u =>
        obtain ⟨y, q⟩ := u
        rw [hc] at h
        simp only [Option.some.injEq, Prod.mk.injEq] at h
        obtain ⟨rfl, rfl, rfl, rfl⟩ := h
        unfold clo at hc
        cases hn : nm (tp [47] (tp [60] l)) with
        | none => rw [hn] at hc; simp at hc
        | some u =>
          obtain ⟨z, q2⟩ := u
          rw [hn] at hc
          simp only at hc
          split at hc
          · simp only [Option.some.injEq, Prod.mk.injEq] at hc
            obtain ⟨rfl, rfl⟩ := hc
            obtain ⟨g1, g2⟩ := nm_ok hn
            have h1 := congrArg List.length g2
            rw [List.length_append] at h1
            have := bk_le q2; have := tp_len [62] (bk q2)
            refine ⟨?_, by decide, ?_⟩
            · unfold okT; simp only; rw [if_neg (by decide)]; simp [g1]
            · unfold szT szA; simp; omega
          · simp at hc
    · unfold op at h
      cases hn : nm (tp [60] l) with
      | none => rw [hn] at h; simp at h
      | some u =>
        obtain ⟨z, q2⟩ := u
        rw [hn] at h
        simp only at h
        cases ho : opF (q2.length + 1) q2 [] with
        | none => rw [ho] at h; simp at h
        | some u =>
          obtain ⟨k', qs, q⟩ := u
          rw [ho] at h
          simp only [Option.some.injEq, Prod.mk.injEq] at h
          obtain ⟨rfl, rfl, rfl, rfl⟩ := h
          obtain ⟨g1, g2⟩ := nm_ok hn
          have h1 := congrArg List.length g2
          rw [List.length_append] at h1
          obtain ⟨i1, i2, i3⟩ := opF_ok _ _ [] (vt_nm hv1 hn) rfl ho
          rw [show szA [] = 0 from rfl, List.length_nil] at i3
          refine ⟨?_, by rcases i2 with rfl | rfl <;> decide, ?_⟩
          · unfold okT; simp only
            rcases i2 with rfl | rfl
            · rw [if_neg (by decide), if_neg (by decide), if_pos (by decide), g1, i1]; rfl
            · rw [if_neg (by decide), if_neg (by decide), if_pos (by decide), g1, i1]; rfl
          · unfold szT; simp only [List.length_nil]; rw [szA_take40 i1]; omega
  · simp at h
theorem drop_upto {l : List UInt8} : l.drop (upto 60 l).length = [] ∨ ∃ q, l.drop (upto 60 l).length = 60 :: q := by
  by_cases h : 60 ∈ l
  · have h1 := upto_get h
    have h2 := upto_lt h
    right
    exact ⟨_, by rw [List.drop_eq_getElem_cons h2]; congr 1; rw [List.getElem?_eq_getElem h2] at h1; injection h1⟩
  · left
    rw [upto_all h]; simp
theorem tokV_okT {l : List UInt8} {t : Tk} {n : Nat} (a : Int) (hl : l ≠ []) (hv : Vt l) (h : tokV l = .ok (t, n)) : okT ⟨t.k, t.x, t.t, t.ps, a⟩ = true ∧ szT ⟨t.k, t.x, t.t, t.ps, a⟩ ≤ 4 * n ∧ (t.k = 4 → l.drop n = [] ∨ ∃ q, l.drop n = 60 :: q) ∧ ((∃ q, l = 60 :: q) → t.k ≠ 4) := by
  have hlen := tokV_len hl h
  unfold tokV at h
  split at h
  · cases ht : tagV l with
    | none => rw [ht] at h; simp at h
    | some p =>
      obtain ⟨k, x, ps, r⟩ := p
      rw [ht] at h
      simp only [Except.ok.injEq, Prod.mk.injEq] at h
      obtain ⟨rfl, rfl⟩ := h
      obtain ⟨g1, g2, g3⟩ := tagV_ok a hv ht
      exact ⟨g1, by simp only at g3 ⊢; omega, fun h4 => absurd h4 g2, fun _ => g2⟩
  · rename_i h60
    cases hp' : pl (upto 60 l) with
    | error p => rw [hp'] at h; simp at h
    | ok u =>
      rw [hp'] at h
      simp only [Except.ok.injEq, Prod.mk.injEq] at h
      obtain ⟨rfl, rfl⟩ := h
      obtain ⟨g1, g2, g3⟩ := pl_ok (vt_split (b := 60) (by decide) hv).1 hp'
      have hu := upto_pos hl h60
      have hne : u ≠ [] := g3 (by intro e; rw [e] at hu; simp at hu)
      refine ⟨?_, ?_, fun _ => drop_upto, fun ⟨q, e⟩ => absurd (by rw [e]; rfl) h60⟩
      · unfold okT; simp only
        simp [g1, hne]
      · unfold szT szA; simp; omega
theorem sc_ok : ∀ (f : Nat) (l : List UInt8) (p : Nat) (acc R : List Tk), l.length ≤ f → Vt l → scF f l p acc = .ok R → ∃ us, R = acc ++ us ∧ okC (us.map tgOf) ∧ szL (us.map tgOf) ≤ 4 * l.length ∧ ((∃ q, l = 60 :: q) → ∀ t r, us = t :: r → t.k ≠ 4)
  | 0, l, p, acc, R, hf, hv, h => by
    injection h with h
    exact ⟨[], by rw [h]; simp, trivial, by simp [szL], by simp⟩
  | f + 1, l, p, acc, R, hf, hv, h => by
    rw [scF] at h
    split at h
    · injection h with h
      exact ⟨[], by rw [h]; simp, trivial, by simp [szL], by simp⟩
    · rename_i hl
      cases ht : tokV l with
      | error q => rw [ht] at h; simp at h
      | ok u =>
        obtain ⟨t, n⟩ := u
        rw [ht] at h
        simp only at h
        obtain ⟨t1, t2, t3, _⟩ := tokV_len hl ht
        obtain ⟨k1, k2, k3, k4⟩ := tokV_okT (p : Int) hl hv ht
        obtain ⟨us, e1, e2, e3, e4⟩ := sc_ok f _ _ _ _ (by rw [List.length_drop]; omega) (t3 hv) h
        refine ⟨{ t with a := p } :: us, by rw [e1]; simp, ⟨k1, fun h4 t' q e => ?_, e2⟩, ?_, fun hq t' r e => ?_⟩
        · rcases k3 h4 with h0 | h6
          · have hus : us = [] := by
              rw [h0] at h
              cases f with
              | zero => rw [scF] at h; injection h with h; rw [← h] at e1; simpa using e1
              | succ f => rw [scF, if_pos rfl] at h; injection h with h; rw [← h] at e1; simpa using e1
            rw [hus] at e
            simp at e
          · cases us with
            | nil => simp at e
            | cons u r =>
              have := e4 h6 u r rfl
              injection e with e _
              rw [← e]
              exact this
        · rw [List.map_cons]
          unfold szL at e3 ⊢
          rw [List.map_cons, List.sum_cons]
          rw [List.length_drop] at e3
          have : szT (tgOf { t with a := p }) ≤ 4 * n := k2
          omega
        · injection e with e _
          rw [← e]
          exact k4 hq
theorem scR_ok2 {l : List UInt8} {us : List Tk} {P : Nat} {E : Int} (h : scR l = (us, P, E)) (hE : E = 0) : okL (us.map tgOf) = true ∧ szL (us.map tgOf) ≤ 4 * l.length := by
  subst hE
  unfold scR at h
  split at h
  · rename_i h0
    have hv := (rd_vt l).2.1 h0
    cases hs : scV l with
    | error q => rw [hs] at h; simp only [Prod.mk.injEq] at h; exact absurd h.2.2 (by decide)
    | ok ts =>
      rw [hs] at h
      simp only [Prod.mk.injEq] at h
      obtain ⟨us', e1, e2, e3, _⟩ := sc_ok l.length l 0 [] ts (Nat.le_refl _) hv hs
      rw [List.nil_append] at e1
      rw [← h.1, e1]
      exact ⟨okC_okL e2, e3⟩
  · simp only [Prod.mk.injEq] at h; exact absurd h.2.2 (by decide)
theorem scF_err : ∀ (f : Nat) (l : List UInt8) (p : Nat) (acc : List Tk) (q : Nat), l.length ≤ f → scF f l p acc = .error q → q < p + l.length
  | 0, l, p, acc, q, hf, h => by simp [scF] at h
  | f + 1, l, p, acc, q, hf, h => by
    rw [scF] at h
    split at h
    · simp at h
    · rename_i hl
      cases ht : tokV l with
      | error e =>
        rw [ht] at h
        injection h with h
        have := tokV_err hl ht
        omega
      | ok u =>
        obtain ⟨t, n⟩ := u
        rw [ht] at h
        simp only at h
        have t1 := tokV_len hl ht
        have := scF_err f _ _ _ _ (by rw [List.length_drop]; omega) h
        rw [List.length_drop] at this
        omega
theorem rd_bad (l : List UInt8) (h : (rd st8 l 0).2.2 ≠ 0) : (rd st8 l 0).2.1 < l.length := by
  have key : ∀ (n : Nat) (l : List UInt8) (p : Nat) (acc : List Int), l.length ≤ n → ∀ R, Rd st8 l p acc R → R.2.2 ≠ 0 → R.2.1 < p + l.length := by
    intro n
    induction n with
    | zero =>
      intro l p acc h R hR hE
      obtain rfl : l = [] := List.length_eq_zero_iff.1 (by omega)
      rw [hR.done] at hE
      exact absurd rfl hE
    | succ n ih =>
      intro l p acc h R hR hE
      by_cases hl : l = []
      · subst hl
        rw [hR.done] at hE
        exact absurd rfl hE
      have hpos := List.length_pos_iff.2 hl
      by_cases h0 : (st8 l).2 = 0
      · rw [hR.bad hl h0]
        simp only
        omega
      · have hst := hR.step hl h0
        obtain ⟨g1, g2, g3⟩ := code8.good l h0
        have := ih _ _ _ (by rw [List.length_drop]; omega) R hst hE
        rw [List.length_drop] at this
        omega
  have := key _ _ _ _ (Nat.le_refl _) _ (Rd.start _ _ _) h
  omega
theorem scR_bad {l : List UInt8} {us : List Tk} {P : Nat} {E : Int} (h : scR l = (us, P, E)) (hE : E ≠ 0) : us = [] ∧ P < l.length := by
  unfold scR at h
  split at h
  · cases hs : scV l with
    | ok ts => rw [hs] at h; simp only [Prod.mk.injEq] at h; exact absurd h.2.2.symm hE
    | error q =>
      rw [hs] at h
      simp only [Prod.mk.injEq] at h
      have := scF_err _ _ _ _ _ (Nat.le_refl _) hs
      exact ⟨h.1.symm, by rw [← h.2.1]; omega⟩
  · rename_i h0
    simp only [Prod.mk.injEq] at h
    exact ⟨h.1.symm, by rw [← h.2.1]; exact rd_bad l h0⟩
end Go.Proofs.YtpmdekhjodhdmaaDoor.K17
