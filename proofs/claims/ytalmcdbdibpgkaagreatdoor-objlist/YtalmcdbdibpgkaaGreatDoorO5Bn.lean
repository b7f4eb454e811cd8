/-
  What is read is written in not much more than what it was read from.
-/
import Derived.Test.YtalmcdbdibpgkaaGreatDoorO5Bk
namespace Go.Proofs.YtalmcdbdibpgkaaGreatDoor
open Go.RowKit Go.Deep
set_option linter.unusedVariables false

theorem dR_sz : ∀ (f : Nat) (l : List UInt8) (p : Nat) (acc bs : List UInt8) (q : Nat), dR f l p acc = some (bs, q) → p < q ∧ bs.length ≤ acc.length + (q - p)
  | 0, _, _, _, _, _, h => by simp [dR] at h
  | _ + 1, [], _, _, _, _, h => by simp [dR] at h
  | f + 1, c :: l, p, acc, bs, q, h => by
    rw [dR_cons] at h
    split at h
    · simp only [Option.some.injEq, Prod.mk.injEq] at h; obtain ⟨rfl, rfl⟩ := h; omega
    · cases l with
      | nil => cases h
      | cons d l' =>
        simp only at h
        split at h
        · have := dR_sz f l' (p + 2) _ bs q h
          simp only [List.length_append, List.length_cons, List.length_nil] at this
          omega
        · cases h
theorem forT_first (T : BT Pay) (d : Bool) (ks : List ByteArray) : (forT T d ks true).length ≤ (forT T d ks false).length := by
  cases T with
  | nil => exact Nat.le_refl _
  | node b o p T N => rw [forT_node, forT_node]; simp
theorem ref_ge {l : List UInt8} {E e2 : Nat} (h : refV l E = some e2) : E + 2 ≤ e2 := by
  unfold refV at h
  have h1 := blanks_ge l E
  have h2 := blanks_ge l (blanksV l E + 1)
  split at h
  · split at h
    · simp only [Option.some.injEq] at h; omega
    · cases h
  · cases h
theorem wd_bn (l : List UInt8) (a : Nat) (p : Pay) (q : Nat) (h : wdV l a = some (p, q)) : (objT p .nil).length + 1 ≤ 4 * (q - a) := by
  unfold wdV at h
  have hlen : ((l.drop a).take (wordV l a - a)).length ≤ wordV l a - a := by rw [List.length_take]; omega
  generalize (l.drop a).take (wordV l a - a) = wl at h hlen
  generalize wordV l a = E at h hlen
  unfold wdP at h
  split at h
  · rename_i hw
    simp only [Option.some.injEq, Prod.mk.injEq] at h
    obtain ⟨rfl, rfl⟩ := h
    rw [hw] at hlen
    rw [show objT (zp 0 false 0) .nil = [110, 117, 108, 108] from rfl]
    simp at hlen ⊢; omega
  split at h
  · rename_i hw
    simp only [Option.some.injEq, Prod.mk.injEq] at h
    obtain ⟨rfl, rfl⟩ := h
    rw [hw] at hlen
    rw [show objT (zp 1 true 0) .nil = [116, 114, 117, 101] from rfl]
    simp at hlen ⊢; omega
  split at h
  · rename_i hw
    simp only [Option.some.injEq, Prod.mk.injEq] at h
    obtain ⟨rfl, rfl⟩ := h
    rw [hw] at hlen
    rw [show objT (zp 1 false 0) .nil = [102, 97, 108, 115, 101] from rfl]
    simp at hlen ⊢; omega
  cases hai : aiV wl with
  | none =>
    rw [hai] at h
    simp only at h
    split at h
    · rename_i hp
      simp only [Option.some.injEq, Prod.mk.injEq] at h
      obtain ⟨rfl, rfl⟩ := h
      have ht : D2.textL (D2.parV wl) = wl := by
        unfold D2.parV
        rw [if_pos hp]
        unfold D2.parB at hp
        rw [Bool.and_eq_true] at hp
        exact eq_of_beq hp.2
      rw [show objT (zp 3 false (D2.parV wl)) .nil = D2.textL (D2.parV wl) from rfl, ht]
      obtain ⟨c, u, e, _⟩ := textL_form (D2.parV wl)
      have : 0 < wl.length := by rw [← ht, e]; simp
      omega
    · cases h
  | some x =>
    have hx := ai_eq _ _ hai
    obtain ⟨c, u, e, _⟩ := intT_form x
    have hpos : 0 < wl.length := by rw [← hx, e]; simp
    rw [hai] at h
    simp only at h
    cases hr : refV l E with
    | none =>
      rw [hr] at h
      simp only [Option.some.injEq, Prod.mk.injEq] at h
      obtain ⟨rfl, rfl⟩ := h
      rw [show objT (zp 2 false x) .nil = intT x from rfl, hx]
      omega
    | some e2 =>
      rw [hr] at h
      simp only [Option.some.injEq, Prod.mk.injEq] at h
      obtain ⟨rfl, rfl⟩ := h
      have := ref_ge hr
      rw [show objT (zp 8 false x) .nil = intT x ++ [32, 48, 32, 82] from rfl, hx]
      simp
      omega
theorem rec_bn (l : List UInt8) : ∀ f, (∀ a nest p T q, (rec5 l f).ob a nest = some (p, T, q) → (objT p T).length + 1 ≤ 4 * (q - a)) ∧ (∀ a nest T q, (rec5 l f).li a nest = some (T, q) → (forT T false [] false).length + 4 ≤ 4 * (q - a)) ∧ (∀ a nest ks T q, (rec5 l f).di a nest = some (ks, T, q) → (forT T true ks false).length + 8 ≤ 4 * (q - a))
  | 0 => ⟨fun _ _ _ _ _ h => (by cases h), fun _ _ _ _ h => (by cases h), fun _ _ _ _ _ h => (by cases h)⟩
  | f + 1 => by
    obtain ⟨i1, i2, i3⟩ := rec_bn l f
    obtain ⟨j1, j2, j3⟩ := rec_lt l f
    refine ⟨fun a nest p T q h => ?_, fun a nest T q h => ?_, fun a nest ks T q h => ?_⟩
    · rw [ob_succ] at h
      have hb := blanks_ge l a
      unfold obS at h
      split at h
      · cases hx : (rec5 l f).di (blanksV l a + 2) (nest + 1) with
        | none => rw [hx] at h; cases h
        | some r =>
          obtain ⟨ks, T', q'⟩ := r
          rw [hx] at h
          simp only [Option.map_some, Option.some.injEq, Prod.mk.injEq] at h
          obtain ⟨rfl, rfl, rfl⟩ := h
          have h1 := i3 _ _ _ _ _ hx
          have h2 := forT_first T' true ks
          rw [show objT (kp ks) T' = 60 :: 60 :: (forT T' true ks true ++ [62, 62]) from rfl]
          simp only [List.length_cons, List.length_append, List.length_nil]
          omega
      split at h
      · cases hx : (rec5 l f).li (blanksV l a + 1) (nest + 1) with
        | none => rw [hx] at h; cases h
        | some r =>
          obtain ⟨T', q'⟩ := r
          rw [hx] at h
          simp only [Option.map_some, Option.some.injEq, Prod.mk.injEq] at h
          obtain ⟨rfl, rfl, rfl⟩ := h
          have h1 := i2 _ _ _ _ hx
          have h2 := forT_first T' false []
          rw [show objT arrP T' = 91 :: (forT T' false [] true ++ [93]) from rfl]
          simp only [List.length_cons, List.length_append, List.length_nil]
          omega
      split at h
      · cases hx : digV (l.drop (blanksV l a + 1)) (blanksV l a + 1) with
        | none => rw [hx] at h; cases h
        | some r =>
          obtain ⟨t, q'⟩ := r
          rw [hx] at h
          simp only [Option.map_some, Option.some.injEq, Prod.mk.injEq] at h
          obtain ⟨rfl, rfl, rfl⟩ := h
          have h1 := dR_sz _ _ _ _ _ _ hx
          have h2 := strT_len t
          rw [show objT (tp 5 t) .nil = strT t from rfl]
          simp only [List.length_nil] at h1
          omega
      split at h
      · cases hx : quoV (l.drop (blanksV l a + 1)) (blanksV l a + 1) with
        | none => rw [hx] at h; cases h
        | some r =>
          obtain ⟨t, q'⟩ := r
          rw [hx] at h
          simp only [Option.map_some, Option.some.injEq, Prod.mk.injEq] at h
          obtain ⟨rfl, rfl, rfl⟩ := h
          have h1 := qR_le _ _ _ _ _ _ _ (Nat.le_refl _) hx
          have h2 := strT_len t
          rw [show objT (tp 5 t) .nil = strT t from rfl]
          simp only [List.length_nil] at h1
          omega
      split at h
      · cases hx : nmV (l.drop (blanksV l a + 1)) (blanksV l a + 1) with
        | none => rw [hx] at h; cases h
        | some r =>
          obtain ⟨t, q'⟩ := r
          rw [hx] at h
          simp only [Option.map_some, Option.some.injEq, Prod.mk.injEq] at h
          obtain ⟨rfl, rfl, rfl⟩ := h
          have h1 := nR_le _ _ _ _ _ _ (Nat.le_refl _) hx
          have h2 := nameT_len t
          rw [show objT (tp 4 t) .nil = nameT t from rfl]
          simp only [List.length_nil] at h1
          omega
      · cases hx : wdV l (blanksV l a) with
        | none => rw [hx] at h; cases h
        | some r =>
          obtain ⟨t, q'⟩ := r
          rw [hx] at h
          simp only [Option.map_some, Option.some.injEq, Prod.mk.injEq] at h
          obtain ⟨rfl, rfl, rfl⟩ := h
          have := wd_bn _ _ _ _ hx
          omega
    · rw [li_succ] at h
      have hb := blanks_ge l a
      unfold liS at h
      split at h
      · simp only [Option.some.injEq, Prod.mk.injEq] at h; obtain ⟨rfl, rfl⟩ := h
        rw [show forT .nil false [] false = [] from rfl]
        simp only [List.length_nil]; omega
      · cases hx : (rec5 l f).ob (blanksV l a) nest with
        | none => rw [hx] at h; cases h
        | some r =>
          obtain ⟨p, T', j⟩ := r
          rw [hx] at h
          simp only at h
          cases hy : (rec5 l f).li j nest with
          | none => rw [hy] at h; cases h
          | some r =>
            obtain ⟨N, e⟩ := r
            rw [hy] at h
            simp only [Option.some.injEq, Prod.mk.injEq] at h
            obtain ⟨rfl, rfl⟩ := h
            have h1 := i1 _ _ _ _ _ hx
            have h2 := i2 _ _ _ _ hy
            have h3 := j1 _ _ _ _ _ hx
            have h4 := j2 _ _ _ _ hy
            rw [forT_node]
            simp only [Bool.false_eq_true, if_false, List.tail_nil, List.nil_append, List.length_append, List.length_cons, List.length_nil]
            omega
    · rw [di_succ] at h
      have hb := blanks_ge l a
      unfold diS at h
      split at h
      · simp only [Option.some.injEq, Prod.mk.injEq] at h; obtain ⟨rfl, rfl, rfl⟩ := h
        rw [show forT .nil true [] false = [] from rfl]
        simp only [List.length_nil]; omega
      split at h
      · cases hn : nmV (l.drop (blanksV l a + 1)) (blanksV l a + 1) with
        | none => rw [hn] at h; cases h
        | some r =>
          obtain ⟨t, j⟩ := r
          rw [hn] at h
          simp only at h
          cases hx : (rec5 l f).ob j nest with
          | none => rw [hx] at h; cases h
          | some r =>
            obtain ⟨p, T', j'⟩ := r
            rw [hx] at h
            simp only at h
            cases hy : (rec5 l f).di j' nest with
            | none => rw [hy] at h; cases h
            | some r =>
              obtain ⟨ks', N, e⟩ := r
              rw [hy] at h
              simp only [Option.some.injEq, Prod.mk.injEq] at h
              obtain ⟨rfl, rfl, rfl⟩ := h
              have h0 := nR_le _ _ _ _ _ _ (Nat.le_refl _) hn
              have h1 := i1 _ _ _ _ _ hx
              have h2 := i3 _ _ _ _ _ hy
              have h3 := j1 _ _ _ _ _ hx
              have h4 := j3 _ _ _ _ _ hy
              have h5 := nameT_len t
              rw [forT_node]
              simp only [Bool.false_eq_true, if_false, if_true, List.tail_cons, List.headD_cons, List.length_append, List.length_cons, List.length_nil] at h0 ⊢
              omega
      · cases h
end Go.Proofs.YtalmcdbdibpgkaaGreatDoor
