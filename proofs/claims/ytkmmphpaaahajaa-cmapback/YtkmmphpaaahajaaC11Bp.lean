/-
  What is built of a good list, wide, is read as it was. Pure.
-/
import Derived.Test.YtkmmphpaaahajaaC11Sq
namespace Go.Proofs.Ytkmmphpaaahajaa
set_option linter.unusedVariables false

/- a span, code by code, behind those ahead of it -/
set_option maxRecDepth 8000 in
theorem span_all {ini : List Ch} {x : Ch} (h : AI ini x.f) (hl : ini.length < 4096) (hx : fitB x 4096 = true) (hn : ∀ i0 y, ini = i0 ++ [y] → nxB y x = true) :
    ∀ j, j ≤ x.l.toNat - x.f.toNat → grpF x.f.toNat x.g.toNat ini (j + 1) = some (ini ++ [⟨x.f, x.f + j, x.g⟩]) ∧ AI (ini ++ [⟨x.f, x.f + j, x.g⟩]) (x.f + j + 1) := by
  have hf := fitB_t.1 hx
  intro j
  induction j with
  | zero =>
    intro _
    have hp : isP x.f = true := isP_t.2 (by omega)
    obtain ⟨r1, r2, _⟩ := add_new (q := x.g) h (Int.le_refl _) hp (by omega) (by omega) hl (fun i0 y e => by
      have := hn i0 y e
      unfold nxB at this
      simp only [Bool.not_eq_true', Bool.or_eq_false_iff] at this
      exact this.2)
    refine ⟨?_, by simpa using r2⟩
    have e : grpF x.f.toNat x.g.toNat ini (0 + 1) = stP ini x.f x.g := by
      rw [grpF, grpF]
      show stP ini ((x.f.toNat + 0 : Nat) : Int) ((x.g.toNat + 0 : Nat) : Int) = _
      rw [show ((x.f.toNat + 0 : Nat) : Int) = x.f by omega, show ((x.g.toNat + 0 : Nat) : Int) = x.g by omega]
    rw [e, stP, hp]
    simpa using r1
  | succ j ih =>
    intro hj
    obtain ⟨i1, i2⟩ := ih (by omega)
    have hp : isP (x.f + (j + 1 : Nat)) = true := isP_t.2 (by omega)
    obtain ⟨r1, r2, _⟩ := add_on (c := x.f + (j + 1 : Nat)) (q := x.g + (j + 1 : Nat)) i2 (by omega) hp (by omega) (by omega) (goB_t.2 ⟨by simp only; omega, by simp only; omega⟩)
    refine ⟨?_, r2⟩
    have e : grpF x.f.toNat x.g.toNat ini (j + 1 + 1) = (grpF x.f.toNat x.g.toNat ini (j + 1)).bind fun y => stP y ((x.f.toNat + (j + 1) : Nat) : Int) ((x.g.toNat + (j + 1) : Nat) : Int) := rfl
    rw [e, i1, Option.bind_some, show ((x.f.toNat + (j + 1) : Nat) : Int) = x.f + (j + 1 : Nat) by omega, show ((x.g.toNat + (j + 1) : Nat) : Int) = x.g + (j + 1 : Nat) by omega, stP, hp]
    exact r1
theorem AI.top {cs : List Ch} {N : Int} (h : GS cs) (hu : ∀ x ∈ cs, x.l < N) : AI cs N := ⟨h, hu⟩
theorem GS.up : ∀ {ini : List Ch} {x : Ch}, GS (ini ++ [x]) → ∀ y ∈ ini, y.l < x.f := by
  intro ini
  obtain ⟨n, hn⟩ : ∃ n, ini.length = n := ⟨_, rfl⟩
  induction n generalizing ini with
  | zero => intro x h y hy; rw [List.eq_nil_of_length_eq_zero hn] at hy; cases hy
  | succ n ih =>
    intro x h y hy
    rcases List.eq_nil_or_concat ini with rfl | ⟨i0, z, rfl⟩
    · cases hy
    rw [List.concat_eq_append] at *
    have h1 := h.next
    unfold nxB at h1
    simp only [Bool.not_eq_true', Bool.or_eq_false_iff, decide_eq_false_iff_not] at h1
    rcases List.mem_append.1 hy with hy | hy
    · have h2 := ih (by simpa using hn) h.init y hy
      have h3 := fitB_t.1 h.init.fit
      omega
    · simp at hy; subst hy; omega
theorem acc_back : ∀ (cs : List Ch), GS cs → cs.length ≤ 4096 → accL cs [] = some cs := by
  intro cs
  obtain ⟨n, hn⟩ : ∃ n, cs.length = n := ⟨_, rfl⟩
  induction n generalizing cs with
  | zero => intro _ _; rw [List.eq_nil_of_length_eq_zero hn]; rfl
  | succ n ih =>
    intro h hl
    rcases List.eq_nil_or_concat cs with rfl | ⟨ini, x, rfl⟩
    · simp at hn
    rw [List.concat_eq_append] at *
    have hl' : ini.length + 1 ≤ 4096 := by simpa using hl
    have hf := fitB_t.1 h.fit
    rw [accL_snoc, ih ini (by simpa using hn) h.init (by omega)]
    show grpF x.f.toNat x.g.toNat ini (x.l.toNat - x.f.toNat + 1) = _
    have := (span_all (AI.top h.init h.up) (by omega) h.fit (fun i0 y e => by rw [e] at h; exact h.next) (x.l.toNat - x.f.toNat) (Nat.le_refl _)).1
    rw [this, show x.f + ((x.l.toNat - x.f.toNat : Nat) : Int) = x.l by omega]
theorem wide_back (cs : List Ch) (hg : gooB cs 4096 = true) : redV (wiT cs) 4096 = some cs := by
  obtain ⟨h1, h2⟩ := gooB_iff.1 hg
  have hGS : GS cs := h2
  have e : wiT cs = opT 10 ++ s12 cs := by unfold wiT s12; simp [List.append_assoc]
  have hfit : ∀ i, i < cs.length → fitB (cs.getD i c0) 4096 = true := fun i hi => by
    have := h2 i hi
    unfold okB at this
    rw [Bool.and_eq_true] at this
    exact this.1
  rw [e, tab_red (opT 10) cs (by decide +kernel) (by decide +kernel) (by decide +kernel) (by decide +kernel) (by decide +kernel) h1 (fun i hi => by
    have := fitB_t.1 (hfit i hi)
    unfold GI; omega) (fun i hi => by
    have := h2 (i + 1) hi
    unfold okB nxB at this
    simp only [Nat.add_sub_cancel, Bool.and_eq_true, Bool.or_eq_true, Bool.not_eq_true', Bool.or_eq_false_iff, decide_eq_false_iff_not, decide_eq_true_eq] at this
    rcases this.2 with h' | h'
    · omega
    · omega)]
  exact acc_back cs hGS h1
end Go.Proofs.Ytkmmphpaaahajaa
