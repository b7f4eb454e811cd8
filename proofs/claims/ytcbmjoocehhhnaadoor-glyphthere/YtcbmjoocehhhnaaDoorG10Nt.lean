/-
  A glyph with new numbers is a glyph with the same components at the same places. Pure.
-/
import Derived.Test.YtcbmjoocehhhnaaDoorG10Np
import Derived.Test.YtcbmjoocehhhnaaDoorG10Qa
namespace Go.Proofs.YtcbmjoocehhhnaaDoor
set_option linter.unusedVariables false

/- the same bytes but at some places -/
def Agr (l l' : List UInt8) (ps : List Nat) : Prop := l'.length = l.length ∧ ∀ x, (∀ p ∈ ps, x ≠ p ∧ x ≠ p + 1) → bt l' x = bt l x
theorem cmp_new (l : List UInt8) (N : Nat) : ∀ (m a : Nat) (acc : List Nat) (r : List Nat × Nat), cmpA l N m a acc = some r → ∃ new, r.1 = acc ++ new ∧ (∀ p ∈ new, a + 2 ≤ p) ∧ (∀ p ∈ new, p + 2 ≤ r.2) ∧ a ≤ r.2 := by
  intro m
  induction m with
  | zero => intro a acc r h; simp [cmpA] at h
  | succ m ih =>
    intro a acc r h
    unfold cmpA at h
    have ho := offs_bd (n2 l a)
    split at h
    case isFalse => cases h
    split at h
    case h_1 => cases h
    case h_2 k hk =>
      split at h
      case isFalse => cases h
      split at h
      case isTrue =>
        obtain ⟨new, e1, e2, e3, e4⟩ := ih _ _ _ h
        refine ⟨[a + 2] ++ new, by rw [e1, List.append_assoc], fun p hp => ?_, fun p hp => ?_, by omega⟩
        · rcases List.mem_append.1 hp with hp | hp
          · simp at hp; omega
          · have := e2 p hp; omega
        · rcases List.mem_append.1 hp with hp | hp
          · simp at hp; omega
          · exact e3 p hp
      case isFalse =>
        split at h
        case isTrue =>
          split at h
          case isTrue hh => injection h with h; subst h; exact ⟨[a + 2], rfl, by simp, by simp; omega, by simp; omega⟩
          case isFalse => cases h
        case isFalse => injection h with h; subst h; exact ⟨[a + 2], rfl, by simp, by simp; omega, by simp; omega⟩
theorem agr_n2 {l l' : List UInt8} {ps : List Nat} (h : Agr l l' ps) {a : Nat} (ha : ∀ p ∈ ps, a + 2 ≤ p ∨ p + 2 ≤ a) : n2 l' a = n2 l a := by
  unfold n2
  rw [h.2 a (fun p hp => by have := ha p hp; omega), h.2 (a + 1) (fun p hp => by have := ha p hp; omega)]
theorem cmp_agr (l l' : List UInt8) (N : Nat) : ∀ (m a : Nat) (acc : List Nat) (r : List Nat × Nat), cmpA l N m a acc = some r → (∀ p ∈ acc, p + 2 ≤ a) → Agr l l' r.1 → cmpA l' N m a acc = some r := by
  intro m
  induction m with
  | zero => intro a acc r h; simp [cmpA] at h
  | succ m ih =>
    intro a acc r h hacc hag
    obtain ⟨new, e1, e2, e3, e4⟩ := cmp_new l N _ _ _ _ h
    have hn : n2 l' a = n2 l a := agr_n2 hag fun p hp => by
      rw [e1] at hp
      rcases List.mem_append.1 hp with hp | hp
      · exact Or.inr (hacc p hp)
      · exact Or.inl (e2 p hp)
    have ho := offs_bd (n2 l a)
    unfold cmpA at h ⊢
    rw [hn]
    split at h
    case isFalse => cases h
    case isTrue h4 =>
      rw [if_pos h4]
      split at h
      case h_1 => cases h
      case h_2 k hk =>
        split at h
        case isFalse => cases h
        case isTrue h6 =>
          rw [if_pos h6]
          have hacc' : ∀ p ∈ acc ++ [a + 2], p + 2 ≤ a + 4 + offs (n2 l a) + k := fun p hp => by
            rcases List.mem_append.1 hp with hp | hp
            · have := hacc p hp; omega
            · simp at hp; omega
          split at h
          case isTrue h32 =>
            rw [if_pos h32]
            exact ih _ _ _ h hacc' hag
          case isFalse h32 =>
            rw [if_neg h32]
            split at h
            case isTrue h256 =>
              rw [if_pos h256]
              split at h
              case isTrue hh =>
                have hq : n2 l' (a + 4 + offs (n2 l a) + k) = n2 l (a + 4 + offs (n2 l a) + k) := agr_n2 hag fun p hp => by
                  injection h with h
                  rw [← h] at hp
                  exact Or.inr (hacc' p hp)
                rw [hq, if_pos hh]
                exact h
              case isFalse => cases h
            case isFalse h256 =>
              rw [if_neg h256]
              exact h
theorem agr_tail {l l' : List UInt8} {ps : List Nat} {e : Nat} (h : Agr l l' ps) (he : ∀ p ∈ ps, p + 2 ≤ e) (ht : tailB l e = true) : tailB l' e = true := by
  unfold tailB at *
  rw [Bool.and_eq_true] at *
  refine ⟨by rw [h.1]; exact ht.1, ?_⟩
  have h2 := (all_at l e).1 ht.2
  rw [all_at]
  intro i h3 h4
  rw [h.2 i (fun p hp => by have := he p hp; omega)]
  exact h2 i h3 (by rw [← h.1]; exact h4)
theorem sh_agr {l l' : List UInt8} {p : Nat} {ps : List Nat} (h : shV l = some (p, ps)) (hps : ps ≠ []) (hag : Agr l l' ps) : shV l' = some (p, ps) := by
  unfold shV at h
  split at h
  · injection h with h; injection h with _ h; exact absurd h.symm hps
  rename_i h0
  split at h
  · cases h
  rename_i h1
  split at h
  · rename_i h2
    have hc : comV l = some ps ∧ p = 0 := by
      cases hc : comV l with
      | none => rw [hc] at h; cases h
      | some q => rw [hc] at h; simp at h; exact ⟨by rw [h.2], h.1.symm⟩
    obtain ⟨hc, rfl⟩ := hc
    unfold comV at hc
    cases hq : cmpA l l.length 64 10 [] with
    | none => rw [hq] at hc; cases hc
    | some r =>
      obtain ⟨q, e⟩ := r
      rw [hq] at hc
      simp only at hc
      split at hc
      · rename_i ht
        injection hc with hc
        subst hc
        obtain ⟨new, e1, e2, e3, e4⟩ := cmp_new l _ _ _ _ _ hq
        simp at e1 e3
        subst e1
        have hc2 := cmp_agr l l' l.length 64 10 [] (q, e) hq (by simp) hag
        have hn0 : n2 l' 0 = n2 l 0 := agr_n2 hag fun x hx => Or.inl (by have := e2 x hx; omega)
        have ht2 := agr_tail hag e3 ht
        unfold shV comV
        rw [hag.1, if_neg h0, if_neg h1, hn0, if_pos h2, hc2]
        simp [ht2]
      · cases hc
  · split at h
    · cases hs : simV l (n2 l 0) with
      | none => rw [hs] at h; cases h
      | some q => rw [hs] at h; simp at h; exact absurd h.2.symm (fun e => hps e.symm)
    · cases h
/- what rnV puts -/
theorem put_bt (m : List UInt8) (p : Nat) (x : Int) (y : Nat) (h : y ≠ p ∧ y ≠ p + 1) : bt (put1 m p x) y = bt m y := by
  unfold bt put1
  rw [List.getD_eq_getElem?_getD, List.getElem?_set_ne (by omega), List.getElem?_set_ne (by omega), ← List.getD_eq_getElem?_getD]
theorem put_n2 (m : List UInt8) (p k : Nat) (hp : p + 2 ≤ m.length) (hk : k ≤ 65535) : n2 (put1 m p (k : Int)) p = k := by
  unfold n2 bt put1
  rw [List.getD_eq_getElem?_getD, List.getD_eq_getElem?_getD, List.getElem?_set_ne (by omega), List.getElem?_set_self (by omega), List.getElem?_set_self (by simp; omega)]
  simp only [Option.getD_some, hiB, loB, UInt8.toNat_ofNat']
  omega
theorem rn_agr (l : List UInt8) (old : List Int) : ∀ (ps : List Nat) (m r : List UInt8), rnV l old ps m = some r → (∀ p ∈ ps, p + 2 ≤ m.length) → r.length = m.length ∧ (∀ x, (∀ p ∈ ps, x ≠ p ∧ x ≠ p + 1) → bt r x = bt m x) := by
  intro ps
  induction ps with
  | nil => intro m r h _; simp [rnV] at h; subst h; exact ⟨rfl, fun _ _ => rfl⟩
  | cons p ps ih =>
    intro m r h hb
    rw [rnV] at h
    split at h
    · cases h
    · rename_i k hk
      obtain ⟨h1, h2⟩ := ih _ _ h (fun q hq => by rw [put1_len]; exact hb q (by simp [hq]))
      rw [put1_len] at h1
      refine ⟨h1, fun x hx => ?_⟩
      rw [h2 x (fun q hq => hx q (by simp [hq])), put_bt m p k x (hx p (by simp))]
/- places that stand apart -/
def Apart : List Nat → Prop
  | [] => True
  | p :: ps => (∀ q ∈ ps, p + 2 ≤ q) ∧ Apart ps
theorem rn_at (l : List UInt8) (old : List Int) : ∀ (ps : List Nat) (m r : List UInt8), rnV l old ps m = some r → (∀ p ∈ ps, p + 2 ≤ m.length) → Apart ps → ∀ i, i < ps.length → ∃ k, fidx old (n2 l (ps.getD i 0)) = some k ∧ n2 r (ps.getD i 0) = k := by
  intro ps
  induction ps with
  | nil => intro m r h _ _ i hi; simp at hi
  | cons p ps ih =>
    intro m r h hb ha i hi
    rw [rnV] at h
    split at h
    · cases h
    · rename_i k hk
      have hb' : ∀ q ∈ ps, q + 2 ≤ (put1 m p (k : Int)).length := fun q hq => by rw [put1_len]; exact hb q (by simp [hq])
      cases i with
      | zero =>
        refine ⟨k, hk, ?_⟩
        obtain ⟨_, h2⟩ := rn_agr l old ps _ r h hb'
        have e1 : bt r p = bt (put1 m p (k : Int)) p := h2 p (fun q hq => by have := ha.1 q hq; omega)
        have e2 : bt r (p + 1) = bt (put1 m p (k : Int)) (p + 1) := h2 (p + 1) (fun q hq => by have := ha.1 q hq; omega)
        show n2 r p = k
        rw [← put_n2 m p k (hb p (by simp)) (fidx_some hk).2.1]
        unfold n2
        rw [e1, e2]
      | succ i => exact ih _ r h hb' ha.2 i (by simpa using hi)
theorem cmp_apart (l : List UInt8) (N : Nat) : ∀ (m a : Nat) (acc : List Nat) (r : List Nat × Nat), cmpA l N m a acc = some r → ∃ new, r.1 = acc ++ new ∧ Apart new := by
  intro m
  induction m with
  | zero => intro a acc r h; simp [cmpA] at h
  | succ m ih =>
    intro a acc r h
    have h' := h
    unfold cmpA at h
    have ho := offs_bd (n2 l a)
    split at h
    case isFalse => cases h
    split at h
    case h_1 => cases h
    case h_2 k hk =>
      split at h
      case isFalse => cases h
      split at h
      case isTrue =>
        obtain ⟨new, e1, e2⟩ := ih _ _ _ h
        obtain ⟨new2, f1, f2, _, _⟩ := cmp_new l N _ _ _ _ h
        have e : new = new2 := List.append_cancel_left (e1.symm.trans f1)
        subst e
        refine ⟨[a + 2] ++ new, by rw [e1, List.append_assoc], fun q hq => ?_, e2⟩
        have := f2 q hq
        omega
      case isFalse =>
        split at h
        case isTrue =>
          split at h
          case isTrue hh => injection h with h; subst h; exact ⟨[a + 2], rfl, by simp [Apart]⟩
          case isFalse => cases h
        case isFalse => injection h with h; subst h; exact ⟨[a + 2], rfl, by simp [Apart]⟩
theorem sh_apart {l : List UInt8} {p : Nat} {ps : List Nat} (h : shV l = some (p, ps)) : Apart ps := by
  unfold shV at h
  split at h
  · injection h with h; injection h with _ h; subst h; trivial
  split at h
  · cases h
  split at h
  · unfold comV at h
    cases hq : cmpA l l.length 64 10 [] with
    | none => rw [hq] at h; cases h
    | some r =>
      obtain ⟨q, e⟩ := r
      rw [hq] at h
      simp only at h
      split at h
      · simp at h
        obtain ⟨_, rfl⟩ := h
        obtain ⟨new, e1, e2⟩ := cmp_apart l _ _ _ _ _ hq
        simp at e1
        rw [e1]; exact e2
      · cases h
  · split at h
    · cases hs : simV l (n2 l 0) with
      | none => rw [hs] at h; cases h
      | some q => rw [hs] at h; simp at h; rw [h.2]; trivial
    · cases h
/- all together -/
theorem ren_there {l m : List UInt8} {old : List Int} {p : Nat} {ps : List Nat} (h : shV l = some (p, ps)) (hr : rnV l old ps l = some m) :
    shV m = some (p, ps) ∧ m.length = l.length ∧ ∀ i, i < ps.length → ∃ k, k < old.length ∧ n2 m (ps.getD i 0) = k ∧ old.getD k 0 = ((n2 l (ps.getD i 0) : Nat) : Int) := by
  have hb := (shV_bd h).2.1
  obtain ⟨h1, h2⟩ := rn_agr l old ps l m hr hb
  refine ⟨?_, h1, fun i hi => ?_⟩
  · by_cases hp : ps = []
    · subst hp
      simp [rnV] at hr
      subst hr
      exact h
    · exact sh_agr h hp ⟨h1, h2⟩
  · obtain ⟨k, e1, e2⟩ := rn_at l old ps l m hr hb (sh_apart h) i hi
    obtain ⟨f1, _, f3, _⟩ := fidx_some e1
    exact ⟨k, f1, e2, f3⟩
end Go.Proofs.YtcbmjoocehhhnaaDoor
