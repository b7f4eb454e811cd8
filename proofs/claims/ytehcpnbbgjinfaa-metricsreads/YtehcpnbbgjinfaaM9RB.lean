/-
  What the reference's short, zeros, two, Good answer.
-/
import Derived.Test.YtehcpnbbgjinfaaM9Sam
import Derived.Laws.Concat
namespace Go.Proofs.Ytehcpnbbgjinfaa
open Go.RowKit Go.Deep
set_option linter.unusedVariables false

theorem short_any (x : Int) (w : World) : Calls Try.prog 39 #[.int .i64 x] w fun e w' => e = .returned (.bool (wiB (-32768) 32767 [x])) ∧ w' = w := by
  rw [wiB_one]
  by_cases h1 : -32768 ≤ x
  · by_cases h2 : x ≤ 32767
    · rw [show decide (-32768 ≤ x) = true by simp; omega, show decide (x ≤ 32767) = true by simp; omega]
      go_enter Try.func39, Try.ntmps39
      go_wp2_with fail
      go_ret
      exact ⟨rfl, rfl⟩
    · rw [show decide (-32768 ≤ x) = true by simp; omega, show decide (x ≤ 32767) = false by simp; omega]
      go_enter Try.func39, Try.ntmps39
      go_wp2_with fail
      go_ret
      exact ⟨rfl, rfl⟩
  · rw [show decide (-32768 ≤ x) = false by simp; omega]
    go_enter Try.func39, Try.ntmps39
    go_wp2_with fail
    go_ret
    exact ⟨rfl, rfl⟩
theorem make_u8 (n : Nat) (hn : n ≤ 100000) (x : World) : (Instr.makeSlice 47 (.int .i64 (n : Int)) (.int .i64 (n : Int))).run Try.prog x = .ok (.slice (some ⟨x.heap.size, 0, none⟩) n n) (x.alloc (.cells (bcs (zers n)) 5)) := by
  obtain ⟨i0, hi, hz0, hz1, hz2⟩ := info_parts5 info_u8
  have h := run_make (P := Try.prog) x 47 5 i0 (.int .u8 0) Try.underlying47 hi hz0 .i64 .i64 n n (by omega) (Int.le_refl _) (by rw [hz2]; omega) (by omega)
  rw [hz1] at h
  simp only [Int.toNat_natCast, Nat.mul_one] at h
  have e : madeCells (Value.int .u8 0).cells n = bcs (zers n) := by
    apply Array.ext (by simp [madeCells, bcs, zers])
    intro j h1 h2
    simp [madeCells, Value.cells, Nat.mod_one, bcs, zers, bcell]
  rw [e] at h
  exact h
theorem blk_text {w : World} {g L : Nat} {ys : List UInt8} (h : Blk w g (bcs ys) 5) (hL : ys.length = L) :
    (convert 47 9 (.slice (some ⟨g, 0, none⟩) L L)).run Try.prog w = .ok (.string ⟨ys.toArray⟩) w := by
  subst hL
  refine run_convert_bytes_back (P := Try.prog) w 47 9 5 ⟨g, 0, none⟩ ys.length ys Try.underlying47 Try.underlying5 Try.underlying9 ?_
  intro k hk
  rw [Go.WideShapes.add_plain, Nat.zero_add, h.cell k, bcs_at ys k hk]
  rfl
set_option maxRecDepth 4000 in
theorem zeros_any (n : Nat) (z : Int) (w : World) (hz : z = (n : Int)) (hn : n ≤ 1000) : Calls Try.prog 36 #[.int .i64 z] w fun e w' => e = .returned (.string ⟨(zers n).toArray⟩) ∧ Below w.heap.size w w' := by
  subst hz
  have MK := make_u8 n (by omega)
  have kb := Blk.new w (bcs (zers n)) 5
  have CV := blk_text kb (zers_len n)
  have HB := hide ((Below.refl w.heap.size w).alloc (Nat.le_refl _) (.cells (bcs (zers n)) 5))
  have hn' : (n : Int) ≤ 1000 := by omega
  generalize bcs (zers n) = Z at MK kb CV HB
  generalize zers n = Y at CV ⊢
  clear kb hn
  go_enter Try.func36, Try.ntmps36
  go_wp2_with fail
  go_ret
  exact ⟨rfl, HB.out⟩
theorem two_any (x : Int) (w : World) (h0 : -4611686018427387904 ≤ x) (h1 : x ≤ 4611686018427387904) : Calls Try.prog 37 #[.int .i64 x] w fun e w' => e = .returned (.string ⟨#[hiB x, loB x]⟩) ∧ Below w.heap.size w w' := by
  have C : Hid (∀ w, Calls Try.prog 51 #[.int .i64 x] w fun e w' => e = .returned (.string ⟨#[hiB x, loB x]⟩) ∧ Below w.heap.size w w') := hide fun w => by
    have kb := Blk.new w (bcs [hiB x, loB x]) 5
    have CV := blk_text kb rfl
    have HB := hide ((Below.refl w.heap.size w).alloc (Nat.le_refl _) (.cells (bcs [hiB x, loB x]) 5))
    rw [show bcs [hiB x, loB x] = #[.int .u8 (x / 256 % 256), .int .u8 (x % 256)] by rw [← hiB_cell, ← loB_cell]; rfl] at CV HB
    simp only [List.length_cons, List.length_nil] at CV
    generalize (⟨[hiB x, loB x].toArray⟩ : ByteArray) = T at CV ⊢
    clear kb
    go_enter Try.func51, Try.ntmps51
    go_wp2_with fail
    go_ret
    exact ⟨rfl, HB.out⟩
  go_enter Try.func37, Try.ntmps37
  go_wp2_with (go_at_call 51; refine (C.out _).mono ?_; rintro e w1 ⟨rfl, h⟩)
  go_ret
  exact ⟨rfl, h⟩
end Go.Proofs.Ytehcpnbbgjinfaa
