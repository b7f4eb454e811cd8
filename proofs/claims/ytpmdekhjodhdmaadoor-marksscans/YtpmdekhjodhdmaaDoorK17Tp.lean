/-
  What is written so that it is one text is read as it was: between tags, and as a value.
-/
import Derived.Test.YtpmdekhjodhdmaaDoorK17Pp
import Derived.Test.YtpmdekhjodhdmaaDoorK17Q
namespace Go.Proofs.YtpmdekhjodhdmaaDoor.K17
open Go.RowKit Go.Proofs.YtpmdekhjodhdmaaDoor
open Go.Lib
set_option linter.unusedVariables false
set_option linter.unusedSimpArgs false
set_option maxRecDepth 8000

theorem esc_cons (c : Nat) (r : List UInt8) (hc : isP (c : Int) = true) : esc (e8 c ++ r) = es c ++ esc r := by
  rw [esc_step _ (by simp [e8_ne]), dN_e8 c r hc]
  simp only
  rw [List.drop_left' rfl]
theorem hc_cons (c : Nat) (r : List UInt8) (h : isP (c : Int) = true) : hc (e8 c ++ r) = (ctl c || hc r) := by
  rw [hc_step _ (by simp [e8_ne]), dN_e8 c r h]
  simp only
  rw [List.drop_left' rfl]
theorem ent_lt (r : List UInt8) : ent ([38, 108, 116, 59] ++ r) = some (60, 4) := by
  unfold ent
  have hu : upto 59 (([38, 108, 116, 59] ++ r).drop 1) = [108, 116] := by simp [upto, List.takeWhile_cons]
  rw [hu, if_neg (by simp)]
  rfl
theorem ent_gt (r : List UInt8) : ent ([38, 103, 116, 59] ++ r) = some (62, 4) := by
  unfold ent
  have hu : upto 59 (([38, 103, 116, 59] ++ r).drop 1) = [103, 116] := by simp [upto, List.takeWhile_cons]
  rw [hu, if_neg (by simp)]
  rfl
theorem ent_amp (r : List UInt8) : ent ([38, 97, 109, 112, 59] ++ r) = some (38, 5) := by
  unfold ent
  have hu : upto 59 (([38, 97, 109, 112, 59] ++ r).drop 1) = [97, 109, 112] := by simp [upto, List.takeWhile_cons]
  rw [hu, if_neg (by simp)]
  rfl
theorem ent_quot (r : List UInt8) : ent ([38, 113, 117, 111, 116, 59] ++ r) = some (34, 6) := by
  unfold ent
  have hu : upto 59 (([38, 113, 117, 111, 116, 59] ++ r).drop 1) = [113, 117, 111, 116] := by simp [upto, List.takeWhile_cons]
  rw [hu, if_neg (by simp)]
  rfl
theorem e8_first (c : Nat) (h : isP (c : Int) = true) (b : Nat) (hb : b < 128) (r : List UInt8) : (e8 c ++ r).getD 0 0 = bt b ↔ c = b := by
  have hl := code8.len c
  have hp := isP_t.1 h
  rw [List.getD_eq_getElem?_getD, List.getElem?_append_left (by omega), List.getElem?_eq_getElem (by omega)]
  simp only [Option.getD_some]
  by_cases h1 : c < 128
  · have : (e8 c)[0]'(by omega) = bt c := by simp [u8_1 h1]
    rw [this]
    constructor
    · intro h2; rw [← bt_nat c (by omega), h2, bt_nat b (by omega)]
    · rintro rfl; rfl
  · constructor
    · intro h2
      have := e8_high (c := c) (by omega) (by omega) _ (List.getElem_mem (show 0 < (e8 c).length by omega))
      rw [h2, bt_nat b (by omega)] at this
      omega
    · intro h2; omega
/- one character of it -/
theorem pl_es (c : Nat) (r : List UInt8) (h : isP (c : Int) = true) (hct : ctl c = false) {p : Nat} {acc : List UInt8} {R : Except Nat (List UInt8)} (H : PL (es c ++ r) p acc R) : ∃ p', PL r p' (acc ++ e8 c) R := by
  unfold es at H
  by_cases h1 : c = 60
  · subst h1
    rw [if_pos rfl] at H
    have := H.ent (by simp) rfl (ent_lt r)
    exact ⟨_, this⟩
  rw [if_neg h1] at H
  by_cases h2 : c = 62
  · subst h2
    rw [if_pos rfl] at H
    have := H.ent (by simp) rfl (ent_gt r)
    exact ⟨_, this⟩
  rw [if_neg h2] at H
  by_cases h3 : c = 38
  · subst h3
    rw [if_pos rfl] at H
    have := H.ent (by simp) rfl (ent_amp r)
    exact ⟨_, this⟩
  rw [if_neg h3] at H
  by_cases h4 : c = 34
  · subst h4
    rw [if_pos rfl] at H
    have := H.ent (by simp) rfl (ent_quot r)
    exact ⟨_, this⟩
  rw [if_neg h4] at H
  have hd := dN_e8 c r h
  have := H.step (by simp [e8_ne]) (by
    intro h5
    exact h3 ((e8_first c h 38 (by decide) r).1 h5)) (by rw [hd]; exact hct)
  rw [hd] at this
  simp only at this
  rw [List.drop_left' rfl, List.take_left' rfl] at this
  exact ⟨_, this⟩
theorem pl_esc {l : List UInt8} (h : Vt l) : hc l = false → ∀ {p : Nat} {acc : List UInt8} {R : Except Nat (List UInt8)}, PL (esc l) p acc R → R = .ok (acc ++ l) := by
  induction h with
  | nil => intro _ p acc R H; rw [esc_nil] at H; rw [H.done]; simp
  | cons c r hc' hr ih =>
    intro hh p acc R H
    rw [hc_cons c r hc', Bool.or_eq_false_iff] at hh
    rw [esc_cons c r hc'] at H
    obtain ⟨p', H2⟩ := pl_es c _ hc' hh.1 H
    have := ih hh.2 H2
    rw [this, List.append_assoc]
theorem pl_of_esc {l : List UInt8} (h : Vt l) (hh : hc l = false) : pl (esc l) = .ok l := by
  have := pl_esc h hh (PL.start (esc l))
  rw [this]; simp
theorem es_vt (c : Nat) (h : isP (c : Int) = true) : Vt (es c) := by
  have lo : ∀ l : List UInt8, (∀ b ∈ l, b.toNat < 128) → Vt l := by
    intro l
    induction l with
    | nil => intro _; exact .nil
    | cons b r ih => intro hb; exact Vt.cons1 (hb b (by simp)) (ih fun x hx => hb x (by simp [hx]))
  unfold es
  repeat' split
  all_goals first
    | exact lo _ (by decide)
    | (have := Vt.cons c [] h .nil; rwa [List.append_nil] at this)
theorem esc_vt {l : List UInt8} (h : Vt l) : Vt (esc l) := by
  induction h with
  | nil => exact .nil
  | cons c r hc hr ih => rw [esc_cons c r hc]; exact (es_vt c hc).app ih
theorem es_not (c : Nat) (h : isP (c : Int) = true) : (34 : UInt8) ∉ es c ∧ (60 : UInt8) ∉ es c := by
  have key : ∀ b : Nat, b < 128 → c ≠ b → bt b ∉ e8 c := by
    intro b hb hne hm
    have hp := isP_t.1 h
    by_cases h1 : c < 128
    · rw [u8_1 h1] at hm
      simp only [List.mem_singleton] at hm
      apply hne
      rw [← bt_nat c (by omega), ← hm, bt_nat b (by omega)]
    · have := e8_high (c := c) (by omega) (by omega) _ hm
      rw [bt_nat b (by omega)] at this
      omega
  unfold es
  repeat' split
  all_goals first
    | exact ⟨by decide, by decide⟩
    | (rename_i h1 h2 h3 h4; exact ⟨key 34 (by decide) h4, key 60 (by decide) h1⟩)
theorem esc_not {l : List UInt8} (h : Vt l) : (34 : UInt8) ∉ esc l ∧ (60 : UInt8) ∉ esc l := by
  induction h with
  | nil => rw [esc_nil]; simp
  | cons c r hc hr ih =>
    rw [esc_cons c r hc]
    have := es_not c hc
    simp only [List.mem_append, not_or]
    exact ⟨⟨this.1, ih.1⟩, this.2, ih.2⟩
theorem esc_ne {l : List UInt8} (h : Vt l) (hl : l ≠ []) : esc l ≠ [] := by
  obtain ⟨c, r, rfl, hc, hr, _⟩ := h.step hl
  rw [esc_cons c r hc]
  intro h0
  have : es c = [] := (List.append_eq_nil_iff.1 h0).1
  unfold es at this
  repeat' split at this
  all_goals first | (simp at this; done) | exact e8_ne c this
/- reading on, a byte known -/
theorem bk_b {b : UInt8} (r : List UInt8) (h : blB b = true) : bk (b :: r) = bk r := by unfold bk; rw [List.dropWhile_cons, if_pos h]
theorem bk_n {b : UInt8} (r : List UInt8) (h : blB b = false) : bk (b :: r) = b :: r := by unfold bk; rw [List.dropWhile_cons, if_neg (by rw [h]; simp)]
theorem hp_1 (b : UInt8) (r : List UInt8) : hp [b] (b :: r) = true := (hp_iff _ _).2 ⟨r, rfl⟩
theorem hp_n1 {a b : UInt8} (p r : List UInt8) (h : a ≠ b) : hp (a :: p) (b :: r) = false := by
  unfold hp Lib.hasPrefix
  simp [List.isPrefixOf, h]
theorem nm_b {b c : UInt8} (r : List UInt8) (h : nmB b = true) (h2 : nmB c = false) (h3 : isN [b] = true) : nm (b :: c :: r) = some ([b], c :: r) := by
  unfold nm
  simp [List.takeWhile_cons, List.dropWhile_cons, h, h2, h3]
theorem tp_1 (b : UInt8) (r : List UInt8) : tp [b] (b :: r) = r := tp_t rfl
theorem upto_app {b : UInt8} : ∀ (t r : List UInt8), b ∉ t → upto b (t ++ b :: r) = t
  | [], r, _ => by simp [upto]
  | c :: t, r, h => by
    simp only [List.mem_cons, not_or] at h
    have := upto_app t r h.2
    unfold upto at *
    rw [List.cons_append, List.takeWhile_cons, if_pos (by simpa using Ne.symm h.1), this]
/- the text that the law makes -/
abbrev txB (T : List UInt8) : List UInt8 := [60, 112, 32, 120, 32, 61, 32, 34] ++ (T ++ ([34, 32, 62] ++ (T ++ [60, 47, 112, 32, 62])))
theorem tag_tx (T Q l : List UInt8) (h34 : (34 : UInt8) ∉ T) (h60 : (60 : UInt8) ∉ T) (hp' : pl T = .ok l) : tagV ([60, 112, 32, 120, 32, 61, 32, 34] ++ (T ++ ([34, 32, 62] ++ Q))) = some (1, [112], [([120], l)], Q) := by
  have hva : va (T ++ ([34, 32, 62] ++ Q)) = some (l, [32, 62] ++ Q) := by
    have hu : upto 34 (T ++ ([34, 32, 62] ++ Q)) = T := upto_app T _ h34
    unfold va
    rw [hu, if_pos (by simp), if_neg h60, hp']
    simp only [Option.some.injEq, Prod.mk.injEq, true_and]
    rw [List.drop_append, List.drop_eq_nil_of_le (by omega), show T.length + 1 - T.length = 1 by omega]
    rfl
  have hat : att (120 :: 32 :: 61 :: 32 :: 34 :: (T ++ ([34, 32, 62] ++ Q))) = some ([120], l, [32, 62] ++ Q) := by
    unfold att
    rw [nm_b _ (by decide) (by decide) (by decide)]
    simp only
    rw [bk_b _ (by decide), bk_n _ (by decide), if_pos (hp_1 61 _), tp_1 61 _, bk_b _ (by decide), bk_n _ (by decide), if_pos (hp_1 34 _), tp_1 34 _, hva]
  unfold tagV
  simp only [List.cons_append, List.nil_append] at hva hat ⊢
  rw [if_pos (hp_1 60 _), tp_1 60 _, hp_n1 _ _ (by decide), if_neg (by simp)]
  unfold op
  rw [nm_b _ (by decide) (by decide) (by decide)]
  simp only
  rw [opF, bk_b _ (by decide), bk_n _ (by decide), hp_n1 _ _ (by decide), hp_n1 _ _ (by decide), if_neg (by simp), if_neg (by simp), if_pos ⟨by simp, by simp⟩, hat]
  simp only
  rw [if_neg (by simp [nmd])]
  obtain ⟨f, hf⟩ : ∃ f, (32 :: 120 :: 32 :: 61 :: 32 :: 34 :: (T ++ 34 :: 32 :: 62 :: Q)).length = f + 1 := ⟨_, rfl⟩
  rw [hf, opF, bk_b _ (by decide), bk_n _ (by decide), if_pos (hp_1 62 _), tp_1 62 _]
  rfl
theorem tok_tx (T l : List UInt8) (h34 : (34 : UInt8) ∉ T) (h60 : (60 : UInt8) ∉ T) (hp' : pl T = .ok l) : tokV (txB T) = .ok (⟨1, [112], [], [([120], l)], 0⟩, T.length + 11) := by
  unfold tokV
  rw [show (txB T).getD 0 0 = 60 from rfl, if_pos rfl, tag_tx T _ l h34 h60 hp']
  simp only [Except.ok.injEq, Prod.mk.injEq, true_and]
  simp only [List.length_append, List.length_cons, List.length_nil]
  omega
theorem tok_te (T l : List UInt8) (hT : T ≠ []) (h60 : (60 : UInt8) ∉ T) (hp' : pl T = .ok l) : tokV (T ++ [60, 47, 112, 32, 62]) = .ok (⟨4, [], l, [], 0⟩, T.length) := by
  unfold tokV
  have hg : (T ++ [60, 47, 112, 32, 62]).getD 0 0 ≠ 60 := by
    cases T with
    | nil => exact absurd rfl hT
    | cons b r =>
      simp only [List.cons_append, List.getD_cons_zero]
      rintro rfl
      simp at h60
  rw [if_neg hg, upto_app T _ h60, hp']
theorem sc_tx {l : List UInt8} (h : Vt l) (hh : hc l = false) : scR (txB (esc l)) = (if l = [] then [⟨1, [112], [], [([120], l)], 0⟩, ⟨2, [112], [], [], (esc l).length + 11⟩] else [⟨1, [112], [], [([120], l)], 0⟩, ⟨4, [], l, [], (esc l).length + 11⟩, ⟨2, [112], [], [], (esc l).length + 11 + (esc l).length⟩], 0, 0) := by
  obtain ⟨h34, h60⟩ := esc_not h
  have hp' := pl_of_esc h hh
  have hv := esc_vt h
  have hne := esc_ne h
  have he : l = [] → esc l = [] := fun h0 => by rw [h0]; rfl
  generalize esc l = T at *
  have lo : ∀ l : List UInt8, (∀ b ∈ l, b.toNat < 128) → Vt l := by
    intro l
    induction l with
    | nil => intro _; exact .nil
    | cons b r ih => intro hb; exact Vt.cons1 (hb b (by simp)) (ih fun x hx => hb x (by simp [hx]))
  have hvx : Vt (txB T) := (lo _ (by decide)).app (hv.app ((lo [34, 32, 62] (by decide)).app (hv.app (lo [60, 47, 112, 32, 62] (by decide)))))
  unfold scR
  rw [if_pos ((rd_vt _).2.2 hvx)]
  have S0 := (SC.start (txB T)).step (by simp) (tok_tx T l h34 h60 hp')
  have hd : (txB T).drop (T.length + 11) = T ++ [60, 47, 112, 32, 62] := by
    have e : txB T = ([60, 112, 32, 120, 32, 61, 32, 34] ++ (T ++ [34, 32, 62])) ++ (T ++ [60, 47, 112, 32, 62]) := by simp [txB]
    rw [e, List.drop_left']
    simp only [List.length_append, List.length_cons, List.length_nil]
    omega
  rw [hd] at S0
  have hcl : tokV [60, 47, 112, 32, 62] = .ok (⟨2, [112], [], [], 0⟩, 5) := by kernel_rfl
  by_cases hl : l = []
  · rw [if_pos hl]
    have hT := he hl
    subst hT
    rw [List.nil_append] at S0
    have S1 := S0.step (by simp) hcl
    have := S1.done
    rw [this]
    subst hl
    rfl
  · rw [if_neg hl]
    have S1 := S0.step (by simp) (tok_te T l (hne hl) h60 hp')
    rw [List.drop_left' rfl] at S1
    have S2 := S1.step (by simp) hcl
    have := S2.done
    rw [this]
    simp
end Go.Proofs.YtpmdekhjodhdmaaDoor.K17
