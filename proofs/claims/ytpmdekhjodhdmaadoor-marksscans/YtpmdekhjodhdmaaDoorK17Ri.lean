/-
  A value as the reference reads it, and as the landed code does.
-/
import Derived.Test.YtpmdekhjodhdmaaDoorK17Rh
import Derived.Test.YtpmdekhjodhdmaaDoorK17Rf
namespace Go.Proofs.YtpmdekhjodhdmaaDoor.K17
open Go.RowKit Go.Proofs.YtpmdekhjodhdmaaDoor
open Go.Lib
set_option linter.unusedVariables false
set_option linter.unusedSimpArgs false
set_option maxRecDepth 100000

/- bytes that are signs, none of which ends a value -/
def plain (b : UInt8) : Prop := 33 ≤ b.toNat ∧ b.toNat < 127 ∧ b ≠ 34 ∧ b ≠ 60
theorem entW_plain {w : List UInt8} {c : Nat} (h : entW w = some c) : ∀ b ∈ w, plain b := by
  have hn := entW_no h
  intro b hb
  have h1 : b ≠ 34 := fun e => hn.2 (e ▸ hb)
  have h2 : b ≠ 60 := fun e => hn.1 (e ▸ hb)
  suffices hs : 33 ≤ b.toNat ∧ b.toNat < 127 from ⟨hs.1, hs.2, h1, h2⟩
  unfold entW at h
  have fin : ∀ ws : List UInt8, w = ws → (ws.all fun x => decide (33 ≤ x.toNat ∧ x.toNat < 127)) = true → 33 ≤ b.toNat ∧ b.toNat < 127 := fun ws e ha => by
    rw [e] at hb
    simpa using List.all_eq_true.1 ha b hb
  split at h
  · rename_i h1; exact fin _ h1 (by decide)
  · split at h
    · rename_i h1; exact fin _ h1 (by decide)
    · split at h
      · rename_i h1; exact fin _ h1 (by decide)
      · split at h
        · rename_i h1; exact fin _ h1 (by decide)
        · split at h
          · rename_i h35
            unfold numW at h
            split at h
            · simp at h
            · rename_i hn
              simp only [not_or, Bool.not_eq_false] at hn
              have hall := hn.2.2.2.1
              cases w with
              | nil => simp at hb
              | cons x r =>
                have hx : x = 35 := by simpa using h35
                rcases List.mem_cons.1 hb with h3 | h3
                · rw [h3, hx]; decide
                · have := List.all_eq_true.1 hall b (by simpa using h3)
                  simp only [dgB, decide_eq_true_eq] at this
                  omega
          · simp at h
theorem ent_plain {r : List UInt8} {c n : Nat} (h : ent (38 :: r) = some (c, n)) : ∀ b ∈ (38 :: r).take n, plain b := by
  unfold ent at h
  rw [show (38 :: r).drop 1 = r from rfl] at h
  split at h
  · simp at h
  · rename_i hne
    cases hq : entW (upto 59 r) with
    | none => rw [hq] at h; simp at h
    | some x =>
      rw [hq] at h
      simp only [Option.map_some, Option.some.injEq, Prod.mk.injEq] at h
      obtain ⟨rfl, rfl⟩ := h
      have hm : (59 : UInt8) ∈ r := by
        by_cases hm : (59 : UInt8) ∈ r
        · exact hm
        · exact absurd (by rw [upto_all hm]) hne
      have hg := upto_get hm
      have hlt := (List.getElem?_eq_some_iff.1 hg).1
      intro b hb
      rw [show (upto 59 r).length + 2 = ((upto 59 r).length + 1) + 1 by omega, List.take_succ_cons, List.take_add_one, hg, upto_take] at hb
      simp only [List.mem_cons, List.mem_append, Option.toList_some, List.not_mem_nil, or_false] at hb
      rcases hb with rfl | hb | rfl
      · exact ⟨by decide, by decide, by decide, by decide⟩
      · exact entW_plain hq b hb
      · exact ⟨by decide, by decide, by decide, by decide⟩
theorem hc_plain : ∀ (t r : List UInt8), (∀ b ∈ t, plain b) → hc (t ++ r) = hc r
  | [], r, _ => rfl
  | b :: t, r, h => by
    have hb := h b (by simp)
    have h1 : b.toNat < 128 := by have := hb.2.1; omega
    have h2 : e8 b.toNat = [b] := by
      rw [u8_1 h1]; congr 1
      apply UInt8.toNat_inj.1; exact bt_nat _ (by omega)
    have h3 := hc_cons b.toNat (t ++ r) (isP_t.2 (by omega))
    rw [h2] at h3
    have h4 : ctl b.toNat = false := by unfold ctl; have := hb.1; have := hb.2.1; simp; omega
    rw [show (b :: t) ++ r = [b] ++ (t ++ r) from rfl, h3, h4, hc_plain t r (fun x hx => h x (by simp [hx]))]
    rfl
theorem up_app {d : UInt8} : ∀ (t r : List UInt8), d ∉ t → upto d (t ++ r) = t ++ upto d r
  | [], r, _ => rfl
  | b :: t, r, h => by
    simp only [List.mem_cons, not_or] at h
    have := up_app t r h.2
    unfold upto at *
    rw [List.cons_append, List.takeWhile_cons, if_pos (by simpa using Ne.symm h.1), this]; rfl
theorem RV.many : ∀ (t : List UInt8) {r acc : List UInt8} {R : Option (List UInt8 × List UInt8)}, RV (t ++ r) acc R → (∀ b ∈ t, b ≠ 34 ∧ b ≠ 60 ∧ b ≠ 38) → RV r (acc ++ t) R
  | [], r, acc, R, h, _ => by rw [List.append_nil]; exact h
  | b :: t, r, acc, R, h, hb => by
    have h1 := hb b (by simp)
    have h2 := RV.many t (RV.on h h1.1 h1.2.1 h1.2.2) (fun x hx => hb x (by simp [hx]))
    rw [List.append_assoc] at h2
    exact h2
/- what the two ways say of one value -/
def VQ (l : List UInt8) (R : Option (List UInt8 × List UInt8)) (Q : Except Nat (List UInt8)) : Prop := match R with
  | none => ¬ (34 ∈ l ∧ 60 ∉ upto 34 l ∧ ∃ t, Q = .ok t)
  | some (t, r) => 34 ∈ l ∧ 60 ∉ upto 34 l ∧ r = l.drop ((upto 34 l).length + 1) ∧ (if hc (upto 34 l) = true then ∃ q, Q = .error q else Q = .ok t)
theorem VQ.pre {t r : List UInt8} {R : Option (List UInt8 × List UInt8)} {Q : Except Nat (List UInt8)} (h : VQ r R Q) (h34 : 34 ∉ t) (h60 : 60 ∉ t) (hh : hc (t ++ upto 34 r) = hc (upto 34 r)) : VQ (t ++ r) R Q := by
  have hm : (34 : UInt8) ∈ t ++ r ↔ 34 ∈ r := by rw [List.mem_append]; exact ⟨fun x => x.resolve_left h34, Or.inr⟩
  have hu := up_app t r h34
  have hm6 : (60 : UInt8) ∈ t ++ upto 34 r ↔ 60 ∈ upto 34 r := by rw [List.mem_append]; exact ⟨fun x => x.resolve_left h60, Or.inr⟩
  unfold VQ at *
  cases R with
  | none => simp only at *; rw [hm, hu, hm6]; exact h
  | some p =>
    obtain ⟨y, z⟩ := p
    simp only at *
    rw [hm, hu, hm6, hh, List.length_append, Nat.add_assoc, List.drop_length_add_append]
    exact h
theorem VQ.bad {t r : List UInt8} {R : Option (List UInt8 × List UInt8)} {Q : Except Nat (List UInt8)} {q : Nat} (h : VQ r R Q) (h34 : 34 ∉ t) (h60 : 60 ∉ t) (hh : hc (t ++ upto 34 r) = true) : VQ (t ++ r) R (.error q) := by
  have hm : (34 : UInt8) ∈ t ++ r ↔ 34 ∈ r := by rw [List.mem_append]; exact ⟨fun x => x.resolve_left h34, Or.inr⟩
  have hu := up_app t r h34
  have hm6 : (60 : UInt8) ∈ t ++ upto 34 r ↔ 60 ∈ upto 34 r := by rw [List.mem_append]; exact ⟨fun x => x.resolve_left h60, Or.inr⟩
  unfold VQ at *
  cases R with
  | none => simp only at *; rintro ⟨_, _, t, ht⟩; exact absurd ht (by simp)
  | some p =>
    obtain ⟨y, z⟩ := p
    simp only at *
    rw [hm, hu, hm6, hh, List.length_append, Nat.add_assoc, List.drop_length_add_append]
    exact ⟨h.1, h.2.1, h.2.2.1, by rw [if_pos rfl]; exact ⟨q, rfl⟩⟩
theorem rv_vq : ∀ (n : Nat) (l : List UInt8), l.length ≤ n → Vt l → ∀ {acc : List UInt8} {p : Nat} {R : Option (List UInt8 × List UInt8)} {Q : Except Nat (List UInt8)}, RV l acc R → PL (upto 34 l) p acc Q → VQ l R Q := by
  intro n
  induction n with
  | zero =>
    intro l hl hv acc p R Q h k
    obtain rfl : l = [] := List.length_eq_zero_iff.1 (by omega)
    rw [h.nil]
    rintro ⟨h1, _⟩
    simp at h1
  | succ n ih =>
    intro l hl hv acc p R Q h k
    by_cases h0 : l = []
    · subst h0
      rw [h.nil]
      rintro ⟨h1, _⟩
      simp at h1
    obtain ⟨c, r, rfl, hcp, hvr, hdn⟩ := hv.step h0
    have hp := isP_t.1 hcp
    have hne := e8_ne c
    have hlen : r.length ≤ n := by
      have := List.length_pos_iff.2 hne
      rw [List.length_append] at hl; omega
    by_cases c34 : c = 34
    · subst c34
      rw [show e8 34 = [34] from rfl] at *
      have hR := RV.q h
      subst hR
      have hu : upto 34 ([34] ++ r) = [] := rfl
      rw [hu] at k
      have hQ := k.done
      subst hQ
      unfold VQ
      simp only
      rw [hu]
      refine ⟨by simp, by simp, rfl, ?_⟩
      rw [if_neg (by decide)]
      trivial
    by_cases c60 : c = 60
    · subst c60
      rw [show e8 60 = [60] from rfl] at *
      have hR := RV.lt h
      subst hR
      rintro ⟨_, h6, _⟩
      apply h6
      rw [show upto 34 ([60] ++ r) = 60 :: upto 34 r from rfl]
      simp
    by_cases c38 : c = 38
    · subst c38
      rw [show e8 38 = [38] from rfl] at *
      rw [show upto 34 ([38] ++ r) = 38 :: upto 34 r from rfl] at k
      have hcut := ent_cut 34 (Or.inr rfl) r
      cases he : ent (38 :: r) with
      | none =>
        have hR := RV.no h he
        subst hR
        have hQ := k.none (by simp) rfl (by rw [hcut]; exact he)
        subst hQ
        rintro ⟨_, _, t, ht⟩
        exact absurd ht (by simp)
      | some u =>
        obtain ⟨d, m⟩ := u
        have h2 := RV.en h he
        have k2 := k.ent (by simp) rfl (by rw [hcut]; exact he)
        have hb := ent_bd (by rw [hcut]; exact he)
        have hb2 := ent_bd he
        have hv2 := ent_vt (l := 38 :: r) hv he
        have hdr : (38 :: upto 34 r).drop m = upto 34 ((38 :: r).drop m) := by
          rw [← show upto 34 (38 :: r) = 38 :: upto 34 r from rfl]
          exact upto_drop m _ hb.2
        rw [hdr] at k2
        have i := ih _ (by rw [List.length_drop]; rw [List.length_append] at hl; simp only [List.length_cons, List.length_nil] at *; omega) hv2 h2 k2
        have hpl := ent_plain he
        have := i.pre (t := (38 :: r).take m) (fun hm => (hpl _ hm).2.2.1 rfl) (fun hm => (hpl _ hm).2.2.2 rfl) (hc_plain _ _ hpl)
        rw [List.take_append_drop] at this
        exact this
    have hall : ∀ b ∈ e8 c, b ≠ 34 ∧ b ≠ 60 ∧ b ≠ 38 := by
      intro b hb
      by_cases h1 : c < 128
      · rw [u8_1 h1] at hb
        simp only [List.mem_singleton] at hb
        have hn := bt_nat c (by omega)
        rw [← hb] at hn
        refine ⟨?_, ?_, ?_⟩ <;> (rintro rfl; simp at hn; omega)
      · have := e8_high (c := c) (by omega) (by omega) _ hb
        refine ⟨?_, ?_, ?_⟩ <;> (rintro rfl; exact absurd this (by decide))
    have n34 : (34 : UInt8) ∉ e8 c := fun hm => (hall _ hm).1 rfl
    have n60 : (60 : UInt8) ∉ e8 c := fun hm => (hall _ hm).2.1 rfl
    have h2 := RV.many _ h hall
    have hu := up_app (e8 c) r n34
    rw [hu] at k
    have hd := dN_e8 c (upto 34 r) hcp
    have g38 : (e8 c ++ upto 34 r).getD 0 0 ≠ 38 := fun h => c38 ((e8_first c hcp 38 (by decide) _).1 h)
    have une : e8 c ++ upto 34 r ≠ [] := by simp [hne]
    have hcc := hc_cons c (upto 34 r) hcp
    cases hct : ctl c with
    | true =>
      have hQ := k.ctl une g38 (by rw [hd]; exact hct)
      subst hQ
      have k3 : PL (upto 34 r) 0 (acc ++ e8 c) (plF (upto 34 r).length (upto 34 r) 0 (acc ++ e8 c)) := ⟨_, Nat.le_refl _, rfl⟩
      exact (ih r hlen hvr h2 k3).bad n34 n60 (by rw [hcc, hct]; rfl)
    | false =>
      have k2 := k.step une g38 (by rw [hd]; exact hct)
      rw [hd] at k2
      simp only [List.drop_left', List.take_left'] at k2
      exact (ih r hlen hvr h2 k2).pre n34 n60 (by rw [hcc, hct]; rfl)
/- a value that has no control character is the same both ways -/
theorem rv_va {l : List UInt8} (hv : Vt l) : va l = match rv l with
  | none => none
  | some (t, r) => if hc (l.take (l.length - r.length)) = true then none else some (t, r) := by
  have h := rv_vq _ l (Nat.le_refl _) hv (RV.start l) (PL.start (upto 34 l))
  unfold va
  cases hr : rv l with
  | none =>
    rw [hr] at h
    simp only
    split
    · rename_i h34
      split
      · rfl
      · rename_i h60
        cases hp : pl (upto 34 l) with
        | error q => rfl
        | ok t => exact absurd ⟨h34, h60, t, hp⟩ h
    · rfl
  | some u =>
    obtain ⟨t, r⟩ := u
    rw [hr] at h
    obtain ⟨h34, h60, rfl, h4⟩ := h
    simp only
    rw [if_pos h34, if_neg h60]
    have hlt := upto_lt h34
    have hg := upto_get h34
    have ht : l.take (l.length - (l.drop ((upto 34 l).length + 1)).length) = upto 34 l ++ [34] := by
      rw [List.length_drop, show l.length - (l.length - ((upto 34 l).length + 1)) = (upto 34 l).length + 1 by omega, List.take_add_one, hg, upto_take]
      rfl
    rw [ht]
    have hca : hc (upto 34 l ++ [34]) = hc (upto 34 l) := by
      have hvu := (vt_split (b := 34) (by decide) hv).1
      generalize upto 34 l = z at hvu
      induction hvu with
      | nil => decide
      | cons c z hcp hz ih => rw [List.append_assoc, hc_cons c _ hcp, hc_cons c _ hcp, ih]
    rw [hca]
    split at h4
    · rename_i hh
      obtain ⟨q, hq⟩ := h4
      rw [if_pos hh, hq]
    · rename_i hh
      rw [if_neg hh, h4]
end Go.Proofs.YtpmdekhjodhdmaaDoor.K17
