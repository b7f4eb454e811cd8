/-
  What stands from a token's place to the next one's is that token alone.
-/
import Derived.Test.YtpmdekhjodhdmaaDoorK17X
namespace Go.Proofs.YtpmdekhjodhdmaaDoor.K17
open Go.RowKit Go.Proofs.YtpmdekhjodhdmaaDoor
open Go.Lib
set_option linter.unusedVariables false
set_option linter.unusedSimpArgs false
set_option maxRecDepth 8000

/- cut off behind what is read -/
theorem dw_cut (p : UInt8 → Bool) : ∀ (l r b : List UInt8), (l ++ r).dropWhile p = b ++ r → l.dropWhile p = b ∧ (l ++ r).takeWhile p = l.takeWhile p
  | [], r, b, h => by
    have h1 : (r.dropWhile p).length ≤ r.length := (List.dropWhile_suffix _).length_le
    rw [List.nil_append] at h
    have h2 := congrArg List.length h
    rw [List.length_append] at h2
    obtain rfl : b = [] := List.length_eq_zero_iff.1 (by omega)
    refine ⟨rfl, ?_⟩
    rw [List.nil_append] at h ⊢
    have h3 := List.takeWhile_append_dropWhile (p := p) (l := r)
    rw [h] at h3
    have h4 := congrArg List.length h3
    rw [List.length_append] at h4
    have : r.takeWhile p = [] := List.length_eq_zero_iff.1 (by omega)
    rw [this]; rfl
  | c :: l, r, b, h => by
    rw [List.cons_append, List.dropWhile_cons] at h
    rw [List.cons_append, List.dropWhile_cons, List.takeWhile_cons, List.takeWhile_cons]
    by_cases hc : p c = true
    · rw [if_pos hc] at h
      obtain ⟨g1, g2⟩ := dw_cut p l r b h
      rw [if_pos hc, if_pos hc, if_pos hc, g2]
      exact ⟨g1, rfl⟩
    · rw [if_neg hc] at h
      rw [if_neg hc, if_neg hc, if_neg hc]
      refine ⟨?_, rfl⟩
      have : (c :: l) ++ r = b ++ r := h
      exact List.append_cancel_right this
theorem bk_cut {l r b : List UInt8} (h : bk (l ++ r) = b ++ r) : bk l = b := (dw_cut _ l r b h).1
theorem hp_iff (p l : List UInt8) : hp p l = true ↔ ∃ z, l = p ++ z := by
  unfold hp Lib.hasPrefix
  rw [List.isPrefixOf_iff_prefix]
  constructor
  · rintro ⟨z, h⟩; exact ⟨z, h.symm⟩
  · rintro ⟨z, h⟩; exact ⟨z, h.symm⟩
theorem tp_t {p l z : List UInt8} (h : l = p ++ z) : tp p l = z := by
  unfold tp
  rw [if_pos ((hp_iff p l).2 ⟨z, h⟩), h, List.drop_left' rfl]
theorem hp_cut {p l r b : List UInt8} (h : hp p (l ++ r) = true) (h2 : tp p (l ++ r) = b ++ r) : hp p l = true ∧ tp p l = b := by
  obtain ⟨z, hz⟩ := (hp_iff _ _).1 h
  rw [tp_t hz] at h2
  subst h2
  have : l = p ++ b := by
    rw [← List.append_assoc] at hz
    exact List.append_cancel_right hz
  exact ⟨(hp_iff _ _).2 ⟨b, this⟩, tp_t this⟩
theorem hp_cutf {p l r : List UInt8} (h : hp p (l ++ r) = false) : hp p l = false := by
  cases hq : hp p l with
  | false => rfl
  | true =>
    obtain ⟨z, hz⟩ := (hp_iff _ _).1 hq
    have : hp p (l ++ r) = true := (hp_iff _ _).2 ⟨z ++ r, by rw [hz, List.append_assoc]⟩
    rw [h] at this; cases this
/- the end of an end -/
theorem suf_split {q r l : List UInt8} (h : q ++ r <:+ l) : ∃ z, l = z ++ r ∧ ∃ y, z = y ++ q := by
  obtain ⟨y, hy⟩ := h
  exact ⟨y ++ q, by rw [List.append_assoc]; exact hy.symm, y, rfl⟩
theorem nm_cut {l r x q : List UInt8} (h : nm (l ++ r) = some (x, q ++ r)) : nm l = some (x, q) := by
  unfold nm at h ⊢
  split at h
  · rename_i hn
    simp only [Option.some.injEq, Prod.mk.injEq] at h
    obtain ⟨h1, h2⟩ := h
    obtain ⟨g1, g2⟩ := dw_cut _ _ _ _ h2
    rw [← g2, g1, h1, ← h1, if_pos hn]
  · simp at h
theorem upto_cut {c : UInt8} : ∀ (l r : List UInt8), c ∈ l → upto c (l ++ r) = upto c l
  | [], r, h => by simp at h
  | b :: l, r, h => by
    unfold upto
    rw [List.cons_append, List.takeWhile_cons, List.takeWhile_cons]
    by_cases hb : b = c
    · subst hb; simp
    · rw [if_pos (by simpa using hb), if_pos (by simpa using hb)]
      have hm : c ∈ l := by
        rcases List.mem_cons.1 h with h | h
        · exact absurd h.symm hb
        · exact h
      have := upto_cut l r hm
      unfold upto at this
      rw [this]
theorem va_cut {l r t q : List UInt8} (h : va (l ++ r) = some (t, q ++ r)) : va l = some (t, q) := by
  unfold va at h ⊢
  split at h
  · rename_i hm
    split at h
    · simp at h
    · rename_i h60
      have hlt := upto_lt hm
      cases hp : pl (upto 34 (l ++ r)) with
      | error p => rw [hp] at h; simp at h
      | ok u =>
        rw [hp] at h
        simp only [Option.some.injEq, Prod.mk.injEq] at h
        obtain ⟨rfl, h2⟩ := h
        have hl := congrArg List.length h2
        rw [List.length_drop, List.length_append, List.length_append] at hl
        rw [List.length_append] at hlt
        have hml : (34 : UInt8) ∈ l := by
          have hg := upto_get hm
          rw [List.getElem?_append_left (by omega)] at hg
          exact List.mem_of_getElem? hg
        rw [upto_cut _ _ hml] at hp h60 h2
        rw [if_pos hml, if_neg h60, hp]
        have := upto_lt hml
        rw [List.drop_append_of_le_length (by omega)] at h2
        rw [List.append_cancel_right h2]
  · simp at h
theorem att_cut {l r x t q : List UInt8} (h : att (l ++ r) = some (x, t, q ++ r)) : att l = some (x, t, q) := by
  unfold att at h ⊢
  cases hn : nm (l ++ r) with
  | none => rw [hn] at h; simp at h
  | some p =>
    obtain ⟨y, z⟩ := p
    rw [hn] at h
    simp only at h
    split at h
    · rename_i h61
      split at h
      · rename_i h34
        cases hv : va (tp [34] (bk (tp [61] (bk z)))) with
        | none => rw [hv] at h; simp at h
        | some u =>
          obtain ⟨u1, u2⟩ := u
          rw [hv] at h
          simp only [Option.some.injEq, Prod.mk.injEq] at h
          obtain ⟨rfl, rfl, rfl⟩ := h
          have s5 := va_suf hv
          obtain ⟨z5, e5, _⟩ := suf_split s5
          have s4 := s5.trans (tp_suf _ _)
          obtain ⟨z4, e4, _⟩ := suf_split s4
          have s3 := s4.trans (bk_suf _)
          obtain ⟨z3, e3, _⟩ := suf_split s3
          have s2 := s3.trans (tp_suf _ _)
          obtain ⟨z2, e2, _⟩ := suf_split s2
          have s1 := s2.trans (bk_suf _)
          obtain ⟨z1, e1, _⟩ := suf_split s1
          subst e1
          rw [nm_cut hn]
          have b2 := bk_cut e2
          rw [e2] at h61 e3
          obtain ⟨c1, c2⟩ := hp_cut h61 e3
          simp only
          rw [b2, if_pos c1, c2]
          have e4' := e4
          rw [e2, e3] at e4'
          have b4 := bk_cut e4'
          rw [e2, e3, e4'] at h34 e5 hv
          obtain ⟨c3, c4⟩ := hp_cut h34 e5
          rw [b4, if_pos c3, c4]
          rw [e5] at hv
          rw [va_cut hv]
      · simp at h
    · simp at h
theorem clo_cut {l r x q : List UInt8} (h : clo (l ++ r) = some (x, q ++ r)) : clo l = some (x, q) := by
  unfold clo at h ⊢
  cases hn : nm (l ++ r) with
  | none => rw [hn] at h; simp at h
  | some p =>
    obtain ⟨y, z⟩ := p
    rw [hn] at h
    simp only at h
    split at h
    · rename_i h62
      simp only [Option.some.injEq, Prod.mk.injEq] at h
      obtain ⟨rfl, e3⟩ := h
      obtain ⟨z2, e2, _⟩ := suf_split (e3 ▸ tp_suf [62] (bk z))
      obtain ⟨z1, e1, _⟩ := suf_split ((e3 ▸ tp_suf [62] (bk z) : q ++ r <:+ bk z).trans (bk_suf _))
      subst e1
      rw [nm_cut hn]
      have b2 := bk_cut e2
      rw [e2] at h62 e3
      obtain ⟨c1, c2⟩ := hp_cut h62 e3
      simp only
      rw [b2, if_pos c1, c2]
    · simp at h
theorem opF_cut : ∀ (f : Nat) (l r : List UInt8) (ps : List At) {k : Int} {qs : List At} {q : List UInt8}, opF f (l ++ r) ps = some (k, qs, q ++ r) → opF f l ps = some (k, qs, q)
  | 0, l, r, ps, k, qs, q, h => by simp [opF] at h
  | f + 1, l, r, ps, k, qs, q, h => by
    rw [opF] at h ⊢
    split at h
    · rename_i h62
      simp only [Option.some.injEq, Prod.mk.injEq] at h
      obtain ⟨rfl, rfl, e3⟩ := h
      obtain ⟨z2, e2, _⟩ := suf_split (e3 ▸ tp_suf [62] (bk (l ++ r)))
      have b2 := bk_cut e2
      rw [e2] at h62 e3
      obtain ⟨c1, c2⟩ := hp_cut h62 e3
      rw [b2, if_pos c1, c2]
    · rename_i h62
      have h62' : hp [62] (bk (l ++ r)) = false := by simpa using h62
      split at h
      · rename_i h47
        simp only [Option.some.injEq, Prod.mk.injEq] at h
        obtain ⟨rfl, rfl, e3⟩ := h
        obtain ⟨z2, e2, _⟩ := suf_split (e3 ▸ tp_suf [47, 62] (bk (l ++ r)))
        have b2 := bk_cut e2
        rw [e2] at h47 e3 h62'
        obtain ⟨c1, c2⟩ := hp_cut h47 e3
        rw [b2, if_neg (by rw [hp_cutf h62']; simp), if_pos c1, c2]
      · rename_i h47
        have h47' : hp [47, 62] (bk (l ++ r)) = false := by simpa using h47
        split at h
        · rename_i hc
          cases ha : att (bk (l ++ r)) with
          | none => rw [ha] at h; simp at h
          | some p =>
            obtain ⟨x, t, z⟩ := p
            rw [ha] at h
            simp only at h
            split at h
            · simp at h
            · rename_i hnd
              have s3 := opF_suf f z _ h
              obtain ⟨z3, e3, _⟩ := suf_split s3
              obtain ⟨z2, e2, _⟩ := suf_split (s3.trans (att_suf ha))
              have b2 := bk_cut e2
              rw [e2] at ha h62' h47' hc
              subst e3
              rw [b2, if_neg (by rw [hp_cutf h62']; simp), if_neg (by rw [hp_cutf h47']; simp), if_pos ⟨by have := hc.1; rw [List.length_append, List.length_append] at this; omega, hc.2⟩, att_cut ha]
              simp only
              rw [if_neg hnd]
              exact opF_cut f z3 r _ h
        · simp at h
theorem opF_more : ∀ (f g : Nat) (l : List UInt8) (ps : List At) {R : Int × List At × List UInt8}, opF f l ps = some R → f ≤ g → opF g l ps = some R
  | 0, g, l, ps, R, h, _ => by simp [opF] at h
  | f + 1, g, l, ps, R, h, hg => by
    obtain ⟨g, rfl⟩ : ∃ k, g = k + 1 := ⟨g - 1, by omega⟩
    rw [opF] at h ⊢
    split at h
    · rename_i h1; rw [if_pos h1]; exact h
    · rename_i h1
      rw [if_neg h1]
      split at h
      · rename_i h2; rw [if_pos h2]; exact h
      · rename_i h2
        rw [if_neg h2]
        split at h
        · rename_i h3
          rw [if_pos h3]
          cases ha : att (bk l) with
          | none => rw [ha] at h; simp at h
          | some p =>
            obtain ⟨x, t, z⟩ := p
            rw [ha] at h
            simp only at h ⊢
            split at h
            · simp at h
            · rename_i h4; rw [if_neg h4]; exact opF_more f g z _ h (by omega)
        · simp at h
theorem opF_len2 : ∀ (f : Nat) (l : List UInt8) (ps : List At) {R : Int × List At × List UInt8}, opF f l ps = some R → opF (l.length + 1) l ps = some R
  | 0, l, ps, R, h => by simp [opF] at h
  | f + 1, l, ps, R, h => by
    rw [opF] at h ⊢
    split at h
    · rename_i h1; rw [if_pos h1]; exact h
    · rename_i h1
      rw [if_neg h1]
      split at h
      · rename_i h2; rw [if_pos h2]; exact h
      · rename_i h2
        rw [if_neg h2]
        split at h
        · rename_i h3
          rw [if_pos h3]
          cases ha : att (bk l) with
          | none => rw [ha] at h; simp at h
          | some p =>
            obtain ⟨x, t, z⟩ := p
            rw [ha] at h
            simp only at h ⊢
            split at h
            · simp at h
            · rename_i h4
              rw [if_neg h4]
              have := opF_len2 f z _ h
              have hl := (att_len ha).1
              have := bk_le l
              exact opF_more _ _ z _ (by assumption) (by omega)
        · simp at h
theorem op_cut {l r x q : List UInt8} {k : Int} {qs : List At} (h : op (l ++ r) = some (k, x, qs, q ++ r)) : op l = some (k, x, qs, q) := by
  unfold op at h ⊢
  cases hn : nm (l ++ r) with
  | none => rw [hn] at h; simp at h
  | some p =>
    obtain ⟨y, z⟩ := p
    rw [hn] at h
    simp only at h
    cases ho : opF (z.length + 1) z [] with
    | none => rw [ho] at h; simp at h
    | some u =>
      obtain ⟨k', ps', r'⟩ := u
      rw [ho] at h
      simp only [Option.some.injEq, Prod.mk.injEq] at h
      obtain ⟨rfl, rfl, rfl, rfl⟩ := h
      obtain ⟨z1, e1, _⟩ := suf_split (opF_suf _ _ _ ho)
      subst e1
      rw [nm_cut hn]
      simp only
      rw [opF_len2 _ _ _ (opF_cut _ _ _ _ ho)]
theorem tagV_cut {l r x q : List UInt8} {k : Int} {qs : List At} (h : tagV (l ++ r) = some (k, x, qs, q ++ r)) : tagV l = some (k, x, qs, q) := by
  unfold tagV at h ⊢
  split at h
  · rename_i h60
    split at h
    · rename_i h47
      cases hc : clo (tp [47] (tp [60] (l ++ r))) with
      | none => rw [hc] at h; simp at h
      | some p =>
        obtain ⟨y, z⟩ := p
        rw [hc] at h
        simp only [Option.some.injEq, Prod.mk.injEq] at h
        obtain ⟨rfl, rfl, rfl, rfl⟩ := h
        have s2 := clo_suf hc
        obtain ⟨z2, e2, _⟩ := suf_split s2
        obtain ⟨z1, e1, _⟩ := suf_split (s2.trans (tp_suf _ _))
        obtain ⟨c1, c2⟩ := hp_cut h60 e1
        rw [e1] at h47 e2
        obtain ⟨c3, c4⟩ := hp_cut h47 e2
        rw [e1, e2] at hc
        rw [if_pos c1, c2, if_pos c3, c4, clo_cut hc]
    · rename_i h47
      have h47' : hp [47] (tp [60] (l ++ r)) = false := by simpa using h47
      have s1 := op_suf h
      obtain ⟨z1, e1, _⟩ := suf_split s1
      obtain ⟨c1, c2⟩ := hp_cut h60 e1
      rw [e1] at h h47'
      rw [if_pos c1, c2, if_neg (by rw [hp_cutf h47']; simp)]
      exact op_cut h
  · simp at h
theorem upto_not (c : UInt8) : ∀ l : List UInt8, c ∉ upto c l
  | [] => by simp [upto]
  | b :: l => by
    have ih := upto_not c l
    unfold upto at *
    rw [List.takeWhile_cons]
    split
    · rename_i hb
      simp only [List.mem_cons, not_or]
      exact ⟨by rintro rfl; simp at hb, ih⟩
    · simp
/- a token stands for itself -/
theorem tokV_cut {l : List UInt8} {t : Tk} {n : Nat} (hl : l ≠ []) (h : tokV l = .ok (t, n)) : tokV (l.take n) = .ok (t, n) := by
  obtain ⟨h1, h2, _, _⟩ := tokV_len hl h
  have hg : (l.take n).getD 0 0 = l.getD 0 0 := by
    rw [List.getD_eq_getElem?_getD, List.getD_eq_getElem?_getD, List.getElem?_take_of_lt (by omega)]
  unfold tokV at h ⊢
  rw [hg]
  split at h
  · rename_i h60
    rw [if_pos h60]
    cases ht : tagV l with
    | none => rw [ht] at h; simp at h
    | some p =>
      obtain ⟨k, x, ps, r⟩ := p
      rw [ht] at h
      simp only [Except.ok.injEq, Prod.mk.injEq] at h
      obtain ⟨rfl, rfl⟩ := h
      have hs := suf_drop (tagV_suf ht)
      have e : l = l.take (l.length - r.length) ++ r := by
        calc l = l.take (l.length - r.length) ++ l.drop (l.length - r.length) := (List.take_append_drop _ _).symm
          _ = _ := by rw [hs]
      have ht2 : tagV (l.take (l.length - r.length) ++ r) = some (k, x, ps, [] ++ r) := by rw [← e]; exact ht
      rw [tagV_cut ht2]
      simp only [List.length_nil, List.length_take]
      rw [Nat.min_eq_left (by omega), Nat.sub_zero]
  · rename_i h60
    rw [if_neg h60]
    cases hp' : pl (upto 60 l) with
    | error p => rw [hp'] at h; simp at h
    | ok u =>
      rw [hp'] at h
      simp only [Except.ok.injEq, Prod.mk.injEq] at h
      obtain ⟨rfl, rfl⟩ := h
      rw [upto_take, upto_all (upto_not 60 l), hp']
/- what is behind whole code points is cut off -/
theorem e8_lead (c : Nat) (h : c ≤ 1114111) : ∀ b, (e8 c)[0]? = some b → b.toNat < 128 ∨ 192 ≤ b.toNat := by
  intro b hb
  by_cases h1 : c < 128
  · rw [u8_1 h1] at hb; simp at hb; subst hb; rw [bt_nat _ (by omega)]; omega
  by_cases h2 : c < 2048
  · rw [u8_2 (by omega) h2] at hb; simp at hb; subst hb; rw [bt_nat _ (by omega)]; omega
  by_cases h3 : c < 65536
  · rw [u8_3 (by omega) h3] at hb; simp at hb; subst hb; rw [bt_nat _ (by omega)]; omega
  · rw [u8_4 (by omega)] at hb; simp at hb; subst hb; rw [bt_nat _ (by omega)]; omega
theorem e8_cont (c : Nat) (h : c ≤ 1114111) (j : Nat) (hj : 1 ≤ j) : ∀ b, (e8 c)[j]? = some b → 128 ≤ b.toNat ∧ b.toNat < 192 := by
  intro b hb
  have hlt := (List.getElem?_eq_some_iff.1 hb).1
  by_cases h1 : c < 128
  · rw [u8_1 h1] at hlt; simp at hlt; omega
  by_cases h2 : c < 2048
  · rw [u8_2 (by omega) h2] at hb hlt
    simp at hlt
    obtain rfl : j = 1 := by omega
    simp at hb; subst hb; rw [bt_nat _ (by omega)]; omega
  by_cases h3 : c < 65536
  · rw [u8_3 (by omega) h3] at hb hlt
    simp at hlt
    obtain rfl | rfl : j = 1 ∨ j = 2 := by omega
    all_goals (simp at hb; subst hb; rw [bt_nat _ (by omega)]; omega)
  · rw [u8_4 (by omega)] at hb hlt
    simp at hlt
    obtain rfl | rfl | rfl : j = 1 ∨ j = 2 ∨ j = 3 := by omega
    all_goals (simp at hb; subst hb; rw [bt_nat _ (by omega)]; omega)
theorem Vt.front {l : List UInt8} (h : Vt l) : ∀ n, Vt (l.drop n) → Vt (l.take n) := by
  induction h with
  | nil => intro n _; simp; exact .nil
  | cons c r hc hr ih =>
    intro n hn
    have hp := isP_t.1 hc
    by_cases h0 : n = 0
    · subst h0; simp; exact .nil
    by_cases h1 : n < (e8 c).length
    · exfalso
      have hg : ((e8 c ++ r).drop n)[0]? = some (e8 c)[n] := by rw [List.getElem?_drop, Nat.add_zero, List.getElem?_append_left h1, List.getElem?_eq_getElem h1]
      have h2 := e8_cont c (by omega) n (by omega) _ (List.getElem?_eq_getElem h1)
      have hne : (e8 c ++ r).drop n ≠ [] := by intro h; rw [h] at hg; simp at hg
      obtain ⟨c', r', he, hc', _, _⟩ := hn.step hne
      rw [he, List.getElem?_append_left (by have := code8.len c'; omega)] at hg
      have hp' := isP_t.1 hc'
      have := e8_lead c' (by omega) _ hg
      omega
    · obtain ⟨j, rfl⟩ : ∃ j, n = (e8 c).length + j := ⟨n - (e8 c).length, by omega⟩
      rw [List.drop_length_add_append] at hn
      rw [List.take_length_add_append]
      exact .cons c _ hc (ih j hn)
/- the tokens one by one -/
inductive Chain (l : List UInt8) : Nat → List Tk → Prop
  | nil : Chain l l.length []
  | cons (p n : Nat) (t : Tk) (ts : List Tk) : p < l.length → tokV (l.drop p) = .ok (t, n) → 1 ≤ n → p + n ≤ l.length → Vt (l.drop p) → Vt (l.drop (p + n)) → Chain l (p + n) ts → Chain l p ({ t with a := p } :: ts)
theorem scF_chain (l : List UInt8) : ∀ (f p : Nat) (acc R : List Tk), p ≤ l.length → l.length ≤ p + f → Vt (l.drop p) → scF f (l.drop p) p acc = .ok R → ∃ ts, R = acc ++ ts ∧ Chain l p ts
  | 0, p, acc, R, h1, h2, hv, h => by
    obtain rfl : p = l.length := by omega
    unfold scF at h
    injection h with h
    exact ⟨[], by simp [h], .nil⟩
  | f + 1, p, acc, R, h1, h2, hv, h => by
    rw [scF] at h
    by_cases he : l.drop p = []
    · rw [if_pos he] at h
      injection h with h
      have := congrArg List.length he
      rw [List.length_drop] at this
      simp at this
      obtain rfl : p = l.length := by omega
      exact ⟨[], by simp [h], .nil⟩
    · rw [if_neg he] at h
      have hlt : p < l.length := by
        rcases Nat.lt_or_ge p l.length with h | h
        · exact h
        · exact absurd (List.drop_eq_nil_of_le h) he
      cases ht : tokV (l.drop p) with
      | error q => rw [ht] at h; simp at h
      | ok u =>
        obtain ⟨t, n⟩ := u
        rw [ht] at h
        simp only at h
        obtain ⟨g1, g2, g3, g4⟩ := tokV_len he ht
        rw [List.length_drop] at g2
        have g3 := g3 hv
        rw [List.drop_drop] at h g3
        obtain ⟨ts, e1, e2⟩ := scF_chain l f (p + n) _ R (by omega) (by omega) g3 h
        exact ⟨{ t with a := p } :: ts, by rw [e1, List.append_assoc]; rfl, .cons p n t ts hlt ht g1 (by omega) hv g3 e2⟩
/- what is between two places -/
structure Pce (l : List UInt8) (ts : List Tk) (i p e : Nat) : Prop where
  a : (ts.getD i tk0.1).a = p
  lt : p < e
  le : e ≤ l.length
  sc : scR ((l.drop p).take (e - p)) = ([{ ts.getD i tk0.1 with a := 0 }], 0, 0)
theorem scR_one {q : List UInt8} {t : Tk} (hv : Vt q) (hq : q ≠ []) (h : tokV q = .ok (t, q.length)) : scR q = ([{ t with a := 0 }], 0, 0) := by
  unfold scR
  rw [if_pos ((rd_vt q).2.2 hv)]
  have := (SC.start q).step hq h
  rw [List.drop_length] at this
  rw [this.done]
  rfl
theorem Chain.at' {l : List UInt8} {p : Nat} {ts : List Tk} (h : Chain l p ts) : (ts = [] → p = l.length) ∧ (∀ t r, ts = t :: r → t.a = p) ∧ ∀ i, i < ts.length → ∃ p' e, Pce l ts i p' e ∧ (i + 1 < ts.length → (ts.getD (i + 1) tk0.1).a = e) ∧ (¬ i + 1 < ts.length → e = l.length) ∧ (i = 0 → p' = p) := by
  induction h with
  | nil => exact ⟨fun _ => rfl, fun t r h => by simp at h, fun i hi => by simp at hi⟩
  | cons p n t ts hlt ht h1 h2 hv hv2 hc ih =>
    obtain ⟨i1, i2, i3⟩ := ih
    refine ⟨fun h => by simp at h, fun u r h => by injection h with h _; rw [← h], fun i hi => ?_⟩
    have hne : l.drop p ≠ [] := drop_ne l p hlt
    have hlen : ((l.drop p).take n).length = n := by rw [List.length_take, List.length_drop]; omega
    cases i with
    | zero =>
      refine ⟨p, p + n, ⟨rfl, by omega, h2, ?_⟩, fun h => ?_, fun h => ?_, fun _ => rfl⟩
      · rw [Nat.add_sub_cancel_left]
        have := scR_one (q := (l.drop p).take n) (t := t) (hv.front n (by rw [List.drop_drop]; exact hv2)) (by intro h0; rw [h0] at hlen; simp at hlen; omega) (by rw [hlen]; exact tokV_cut hne ht)
        rw [this]
        rfl
      · cases ts with
        | nil => simp at h
        | cons u r => exact i2 u r rfl
      · cases ts with
        | nil => exact i1 rfl
        | cons u r => simp at h
    | succ i =>
      obtain ⟨p', e, ⟨q1, q2, q3, q4⟩, q5, q6, q7⟩ := i3 i (by simpa using hi)
      exact ⟨p', e, ⟨by simpa using q1, q2, q3, by simpa using q4⟩, fun h => by simpa using q5 (by simpa using h), fun h => q6 (by simpa using h), fun h => by omega⟩
theorem scV_places {l : List UInt8} {ts : List Tk} (hv : Vt l) (h : scV l = .ok ts) : (ts = [] → l = []) ∧ ∀ i, i < ts.length → ∃ p e, Pce l ts i p e ∧ (i + 1 < ts.length → (ts.getD (i + 1) tk0.1).a = e) ∧ (¬ i + 1 < ts.length → e = l.length) ∧ (i = 0 → p = 0) := by
  unfold scV at h
  obtain ⟨us, e1, e2⟩ := scF_chain l l.length 0 [] ts (by omega) (by omega) (by simpa using hv) (by simpa using h)
  rw [List.nil_append] at e1
  subst e1
  obtain ⟨i1, i2, i3⟩ := e2.at'
  exact ⟨fun h => List.length_eq_zero_iff.1 (i1 h).symm, i3⟩
end Go.Proofs.YtpmdekhjodhdmaaDoor.K17
