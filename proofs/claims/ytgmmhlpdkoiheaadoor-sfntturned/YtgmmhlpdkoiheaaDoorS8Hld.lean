/-
  What the landed holdsSum and summed answer.
-/
import Derived.Test.YtgmmhlpdkoiheaaDoorS8Eq4
namespace Go.Proofs.YtgmmhlpdkoiheaaDoor
open Go.RowKit Go.Deep
set_option linter.unusedVariables false

/- what the variable head holds -/
structure Glo8 (w : World) : Prop where
  lt : 1 < w.heap.size
  c0 : w.cell? ⟨1, 0, none⟩ = some (.int .u8 104)
  c1 : w.cell? ⟨1, 1, none⟩ = some (.int .u8 101)
  c2 : w.cell? ⟨1, 2, none⟩ = some (.int .u8 97)
  c3 : w.cell? ⟨1, 3, none⟩ = some (.int .u8 100)
theorem Glo8.below {w w' : World} (h : Glo8 w) (hb : Below w.heap.size w w') : Glo8 w' := by
  have e : ∀ o, w'.cell? ⟨1, o, none⟩ = w.cell? ⟨1, o, none⟩ := fun o => hb.cell (p := ⟨1, o, none⟩) h.lt
  exact ⟨Nat.lt_of_lt_of_le h.lt hb.size, by rw [e]; exact h.c0, by rw [e]; exact h.c1, by rw [e]; exact h.c2, by rw [e]; exact h.c3⟩
def isHd (b0 b1 b2 b3 : UInt8) : Bool := b0 == 104 && b1 == 101 && b2 == 97 && b3 == 100
theorem u8_ne (b : UInt8) (n : Nat) (hn : n < 256) (h : ¬ b = UInt8.ofNat n) : ((b.toNat : Int) == (n : Int)) = false := by
  rw [beq_eq_false_iff_ne]
  intro e
  apply h
  have : b.toNat = n := by omega
  rw [← this]
  simp
abbrev tgC (b0 b1 b2 b3 : UInt8) : Array Value := #[.int .u8 (b0.toNat : Int), .int .u8 (b1.toNat : Int), .int .u8 (b2.toNat : Int), .int .u8 (b3.toNat : Int)]
set_option maxRecDepth 8000 in
set_option maxHeartbeats 1000000 in
theorem holds_any (b0 b1 b2 b3 : UInt8) (n : Int) (w : World) (hg : Glo8 w) (h0 : 0 ≤ n) (h1 : n ≤ 140737488355328) :
    Calls Tryd.prog 56 #[.agg (tgC b0 b1 b2 b3), .int .i64 n] w fun e w' => e = .returned (.bool (isHd b0 b1 b2 b3 && decide (12 ≤ n))) ∧ Below w.heap.size w w' := by
  have hb := (Below.refl w.heap.size w).alloc (Nat.le_refl _) (.cells (tgC b0 b1 b2 b3) 54)
  obtain ⟨g, g0, g1, g2, g3⟩ := hg
  have hne : w.heap.size ≠ 1 := by omega
  have HB := hide hb
  clear hb
  have hq := eq4
  by_cases h0 : b0 = 104
  case neg =>
    have e : isHd b0 b1 b2 b3 = false := by unfold isHd; simp [h0]
    have q : ((b0.toNat : Int) == 104) = false := u8_ne b0 104 (by decide) h0
    rw [e]
    clear e h0
    go_enter Tryd.func56, Tryd.ntmps56
    go_wp2_with fail
    go_ret
    exact ⟨by first | rfl | simp | (simp only [Bool.false_and]; rfl), HB.out⟩
  by_cases h1 : b1 = 101
  case neg =>
    have e : isHd b0 b1 b2 b3 = false := by unfold isHd; simp [h1]
    have q : ((b1.toNat : Int) == 101) = false := u8_ne b1 101 (by decide) h1
    rw [e]
    clear e h1
    subst h0
    go_enter Tryd.func56, Tryd.ntmps56
    go_wp2_with fail
    go_ret
    exact ⟨by first | rfl | simp | (simp only [Bool.false_and]; rfl), HB.out⟩
  by_cases h2 : b2 = 97
  case neg =>
    have e : isHd b0 b1 b2 b3 = false := by unfold isHd; simp [h2]
    have q : ((b2.toNat : Int) == 97) = false := u8_ne b2 97 (by decide) h2
    rw [e]
    clear e h2
    subst h0 h1
    go_enter Tryd.func56, Tryd.ntmps56
    go_wp2_with fail
    go_ret
    exact ⟨by first | rfl | simp | (simp only [Bool.false_and]; rfl), HB.out⟩
  by_cases h3 : b3 = 100
  case neg =>
    have e : isHd b0 b1 b2 b3 = false := by unfold isHd; simp [h3]
    have q : ((b3.toNat : Int) == 100) = false := u8_ne b3 100 (by decide) h3
    rw [e]
    clear e h3
    subst h0 h1 h2
    go_enter Tryd.func56, Tryd.ntmps56
    go_wp2_with fail
    go_ret
    exact ⟨by first | rfl | simp | (simp only [Bool.false_and]; rfl), HB.out⟩
  subst h0 h1 h2 h3
  have e : isHd 104 101 97 100 = true := by decide
  rw [e]
  clear e
  by_cases h12 : 12 ≤ n
  · go_enter Tryd.func56, Tryd.ntmps56
    go_wp2_with fail
    go_ret
    exact ⟨by simp [h12], HB.out⟩
  · go_enter Tryd.func56, Tryd.ntmps56
    go_wp2_with fail
    go_ret
    exact ⟨by simp [h12], HB.out⟩
end Go.Proofs.YtgmmhlpdkoiheaaDoor
