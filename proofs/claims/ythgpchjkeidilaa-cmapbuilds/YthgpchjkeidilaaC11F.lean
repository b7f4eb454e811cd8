/-
  What cmap's holdsPoints, fits, goesOn and Find answer.
-/
import Derived.Test.YthgpchjkeidilaaC11S
import Derived.Lib.MinMax
namespace Go.Proofs.Ythgpchjkeidilaa
open Go.RowKit Go.Deep
set_option linter.unusedVariables false

/- the spans cs lie at the address a -/
def CLst (w : World) (a : Option Addr) (cs : List Ch) : Prop :=
  cs = [] ∨ ∃ b off, a = some ⟨b, off, none⟩ ∧ b < w.heap.size ∧ ∀ i, i < cs.length → w.cell? ⟨b, off + i * 3, none⟩ = some (.int .i64 (cs.getD i c0).f) ∧ w.cell? ⟨b, off + i * 3 + 1, none⟩ = some (.int .i64 (cs.getD i c0).l) ∧ w.cell? ⟨b, off + i * 3 + 2, none⟩ = some (.int .i64 (cs.getD i c0).g)
theorem CLst.below {w w' : World} {a : Option Addr} {cs : List Ch} (h : CLst w a cs) (hb : Below w.heap.size w w') : CLst w' a cs := by
  rcases h with h | ⟨b, off, h1, h2, h3⟩
  · exact Or.inl h
  · refine Or.inr ⟨b, off, h1, Nat.lt_of_lt_of_le h2 hb.size, fun i hi => ?_⟩
    obtain ⟨x, y, z⟩ := h3 i hi
    exact ⟨by rw [hb.cell (p := ⟨b, _, none⟩) h2]; exact x, by rw [hb.cell (p := ⟨b, _, none⟩) h2]; exact y, by rw [hb.cell (p := ⟨b, _, none⟩) h2]; exact z⟩
theorem CLst.drewN {w : World} {a : Option Addr} {cs : List Ch} (h : CLst w a cs) (n : Nat) : CLst (w.drewN n) a cs := h
/- ints of 64 bits -/
def R64 (z : Int) : Prop := -9223372036854775808 ≤ z ∧ z ≤ 9223372036854775807
def RC (x : Ch) : Prop := R64 x.f ∧ R64 x.l ∧ R64 x.g

theorem hp_any (f l g : Int) (w : World) : Calls Try.prog 35 #[.agg #[.int .i64 f, .int .i64 l, .int .i64 g]] w fun e w' => e = .returned (.bool (hpB ⟨f, l, g⟩)) ∧ Below w.heap.size w w' := by
  have C := hide isPt_any
  have HB := hide ((Below.refl w.heap.size w).alloc (Nat.le_refl _) (.cells #[.int .i64 f, .int .i64 l, .int .i64 g] 31))
  unfold hpB
  cases h1 : isP f
  · simp only [Bool.false_and]
    go_enter Try.func35, Try.ntmps35
    go_wp2_with (go_at_call 40; refine (C.out _ _).mono ?_; rintro e w' ⟨rfl, rfl⟩)
    go_ret
    exact ⟨rfl, HB.out⟩
  cases h2 : isP l
  · simp only [Bool.true_and, Bool.false_and]
    go_enter Try.func35, Try.ntmps35
    go_wp2_with (go_at_call 40; refine (C.out _ _).mono ?_; rintro e w' ⟨rfl, rfl⟩)
    go_ret
    exact ⟨rfl, HB.out⟩
  simp only [Bool.true_and]
  cases h3 : decide (f < 55296) <;> cases h4 : decide (l < 55296)
  all_goals
    go_enter Try.func35, Try.ntmps35
    go_wp2_with (go_at_call 40; refine (C.out _ _).mono ?_; rintro e w' ⟨rfl, rfl⟩)
    go_ret
    exact ⟨rfl, HB.out⟩

theorem fits_any (f l g n : Int) (w : World) (hn : n ≤ 9223372036854775807) : Calls Try.prog 20 #[.agg #[.int .i64 f, .int .i64 l, .int .i64 g], .int .i64 n] w fun e w' => e = .returned (.bool (fitB ⟨f, l, g⟩ n)) ∧ Below w.heap.size w w' := by
  have C := hide (hp_any f l g)
  have HB := hide ((Below.refl w.heap.size w).alloc (Nat.le_refl _) (.cells #[.int .i64 f, .int .i64 l, .int .i64 g] 31))
  have HF := hide (@fitB_hp ⟨f, l, g⟩ n)
  have HFt := hide (@fitB_t ⟨f, l, g⟩ n)
  obtain ⟨R, hR⟩ : ∃ R, fitB ⟨f, l, g⟩ n = R := ⟨_, rfl⟩
  rw [hR] at HF HFt ⊢
  clear hR
  obtain ⟨H, hH⟩ : ∃ H, hpB ⟨f, l, g⟩ = H := ⟨_, rfl⟩
  have hpb : H = true → (0 ≤ f ∧ f ≤ 1114111) ∧ (0 ≤ l ∧ l ≤ 1114111) := fun h => by
    rw [← hH] at h; unfold hpB at h; simp only [Bool.and_eq_true, isP_t] at h; omega
  have HPB := hide hpb
  clear hpb
  rw [hH] at C HF
  clear hH
  by_cases h1 : f ≤ l
  case neg =>
    have h1' : decide (f ≤ l) = false := by simp; omega
    have E : Hid (R = false) := hide (by cases R; rfl; exact absurd (HF.out.1 rfl).1 h1)
    clear h1 HF HFt
    go_enter Try.func20, Try.ntmps20
    go_wp2_with fail
    go_ret
    exact ⟨by rw [E.out]; rfl, HB.out⟩
  cases hH : H
  case false =>
    subst hH
    have E : Hid (R = false) := hide (by cases R; rfl; exact absurd (HF.out.1 rfl).2.1 (by simp))
    clear HF HFt
    go_enter Try.func20, Try.ntmps20
    go_wp2_with fail
    refine (C.out _).mono ?_
    rintro e w1 ⟨rfl, hb1⟩
    have HB1 := hide (HB.out.trans (hb1.mono (by simp)))
    have HZ := hide ((Blk.new w #[.int .i64 f, .int .i64 l, .int .i64 g] 31).below hb1)
    clear hb1
    go_wp2_with fail
    go_ret
    exact ⟨by rw [E.out]; rfl, HB1.out⟩
  subst hH
  have b0 : Hid (R = true ↔ (1 ≤ g ∧ g < n ∧ l - f < n - g)) := hide ⟨fun h => (HF.out.1 h).2.2, fun h => HF.out.2 ⟨h1, rfl, h⟩⟩
  obtain ⟨⟨f0, f1⟩, l0, l1⟩ := HPB.out rfl
  clear HF HFt HPB
  by_cases h2 : 1 ≤ g
  case neg =>
    have h2' : decide (1 ≤ g) = false := by simp; omega
    have E : Hid (R = false) := hide (by cases R; rfl; exact absurd (b0.out.1 rfl).1 h2)
    clear h2 b0
    go_enter Try.func20, Try.ntmps20
    go_wp2_with fail
    refine (C.out _).mono ?_
    rintro e w1 ⟨rfl, hb1⟩
    have HB1 := hide (HB.out.trans (hb1.mono (by simp)))
    have hz := (Blk.new w #[.int .i64 f, .int .i64 l, .int .i64 g] 31).below hb1
    have z2 : w1.cell? ⟨w.heap.size, 2, none⟩ = some (.int .i64 g) := hz.cell 2
    clear hb1 hz
    go_wp2_with fail
    go_ret
    exact ⟨by rw [E.out]; rfl, HB1.out⟩
  by_cases h3 : g < n
  case neg =>
    have h3' : decide (g < n) = false := by simp; omega
    have E : Hid (R = false) := hide (by cases R; rfl; exact absurd (b0.out.1 rfl).2.1 h3)
    clear h3 b0
    go_enter Try.func20, Try.ntmps20
    go_wp2_with fail
    refine (C.out _).mono ?_
    rintro e w1 ⟨rfl, hb1⟩
    have HB1 := hide (HB.out.trans (hb1.mono (by simp)))
    have hz := (Blk.new w #[.int .i64 f, .int .i64 l, .int .i64 g] 31).below hb1
    have z2 : w1.cell? ⟨w.heap.size, 2, none⟩ = some (.int .i64 g) := hz.cell 2
    clear hb1 hz
    go_wp2_with fail
    go_ret
    exact ⟨by rw [E.out]; rfl, HB1.out⟩
  have E : Hid (R = decide (l - f < n - g)) := hide (by
    cases hd : decide (l - f < n - g)
    · cases R
      · rfl
      · have := (b0.out.1 rfl).2.2; simp at hd; omega
    · exact b0.out.2 ⟨h2, h3, by simpa using hd⟩)
  clear b0
  go_enter Try.func20, Try.ntmps20
  go_wp2_with fail
  refine (C.out _).mono ?_
  rintro e w1 ⟨rfl, hb1⟩
  have HB1 := hide (HB.out.trans (hb1.mono (by simp)))
  have hz := (Blk.new w #[.int .i64 f, .int .i64 l, .int .i64 g] 31).below hb1
  have z0 : w1.cell? ⟨w.heap.size, 0, none⟩ = some (.int .i64 f) := hz.cell 0
  have z1 : w1.cell? ⟨w.heap.size, 1, none⟩ = some (.int .i64 l) := hz.cell 1
  have z2 : w1.cell? ⟨w.heap.size, 2, none⟩ = some (.int .i64 g) := hz.cell 2
  clear hb1 hz
  go_wp2_with fail
  go_ret
  exact ⟨by rw [E.out]; rfl, HB1.out⟩

theorem goes_any (f l g c q : Int) (w : World) (f0 : 0 ≤ f) (fl : f ≤ l) (l1 : l ≤ 1114111) (g0 : 1 ≤ g) (g1 : g + l - f + 1 ≤ 9223372036854775807) :
    Calls Try.prog 18 #[.agg #[.int .i64 f, .int .i64 l, .int .i64 g], .int .i64 c, .int .i64 q] w fun e w' => e = .returned (.bool (goB ⟨f, l, g⟩ c q)) ∧ Below w.heap.size w w' := by
  have HB := hide ((Below.refl w.heap.size w).alloc (Nat.le_refl _) (.cells #[.int .i64 f, .int .i64 l, .int .i64 g] 31))
  by_cases h1 : c = l + 1
  case neg =>
    rw [goB_f.2 (fun h => h1 h.1)]
    have h1' : (c == l + 1) = false := by simpa using h1
    clear h1 g1
    go_enter Try.func18, Try.ntmps18
    go_wp2_with fail
    go_ret
    exact ⟨rfl, HB.out⟩
  have hv : goB ⟨f, l, g⟩ c q = (q == g + l - f + 1) := by
    unfold goB
    rw [Bool.eq_iff_iff, decide_eq_true_iff, beq_iff_eq]
    exact ⟨fun h => h.2, fun h => ⟨h1, h⟩⟩
  rw [hv]
  obtain ⟨A, hA⟩ : ∃ A, wrap64 (g + l) = A := ⟨_, rfl⟩
  have hB : wrap64 (A - f) = g + l - f := by rw [← hA]; unfold wrap64 at *; omega
  obtain ⟨B, hBB⟩ : ∃ B, g + l - f = B := ⟨_, rfl⟩
  rw [hBB] at hB ⊢ g1
  have b0 : 0 ≤ B := by omega
  have b1 : B + 1 ≤ 9223372036854775807 := g1
  subst h1
  clear hv g1 hBB
  clear g0
  go_enter Try.func18, Try.ntmps18
  go_wp2_with fail
  go_ret
  exact ⟨rfl, HB.out⟩
end Go.Proofs.Ythgpchjkeidilaa
