/-
  What the reference's Decimal (chapter 2) answers: a number from 0 on in digits.
-/
import Derived.Test.YthhhepbflggojaaDoorProg
import Derived.Test.YthhhepbflggojaaDoorHide
import Derived.WalkKit
import Derived.Outline
import Derived.Deep.RegionWith
import Derived.Laws.Concat
namespace Go.Proofs.YthhhepbflggojaaDoor.D2
set_option maxRecDepth 8000
open Go.RowKit

def decF : Nat → Nat → List UInt8
  | 0, n => [UInt8.ofNat (48 + n % 10)]
  | f + 1, n => if n < 10 then [UInt8.ofNat (48 + n)] else decF f (n / 10) ++ [UInt8.ofNat (48 + n % 10)]

/- string([]byte{c}): the one byte that was laid -/
theorem one_byte (w : World) (c : UInt8) (x : Int) (hx : (c.toNat : Int) = x) :
    (convert 43 9 (.slice (some ⟨w.heap.size, 0, none⟩) 1 1)).run Tryd.prog (w.alloc (.cells #[.int .u8 x] 5)) = .ok (.string ⟨#[c]⟩) (w.alloc (.cells #[.int .u8 x] 5)) := by
  subst hx
  refine run_convert_bytes_back (P := Tryd.prog) (w.alloc (.cells #[.int .u8 (c.toNat : Int)] 5)) 43 9 5 ⟨w.heap.size, 0, none⟩ 1 [c] Tryd.underlying43 Tryd.underlying5 Tryd.underlying9 ?_
  intro k hk
  obtain rfl : k = 0 := by simp at hk; omega
  simp [Addr.add]
theorem one_at (w : World) (g : Nat) (c : UInt8) (x : Int) (hx : (c.toNat : Int) = x) (hc : w.cell? ⟨g, 0, none⟩ = some (.int .u8 x)) :
    (convert 43 9 (.slice (some ⟨g, 0, none⟩) 1 1)).run Tryd.prog w = .ok (.string ⟨#[c]⟩) w := by
  subst hx
  refine run_convert_bytes_back (P := Tryd.prog) w 43 9 5 ⟨g, 0, none⟩ 1 [c] Tryd.underlying43 Tryd.underlying5 Tryd.underlying9 ?_
  intro k hk
  obtain rfl : k = 0 := by simp at hk; omega
  simpa [Addr.add] using hc
theorem one_after {w w1 : World} {x : Int} {c : UInt8} (hx : (c.toNat : Int) = x) (hb : Below (w.alloc (.cells #[.int .u8 x] 5)).drew.heap.size (w.alloc (.cells #[.int .u8 x] 5)).drew w1) :
    (convert 43 9 (.slice (some ⟨w.heap.size, 0, none⟩) 1 1)).run Tryd.prog w1 = .ok (.string ⟨#[c]⟩) w1 := by
  refine one_at w1 w.heap.size c x hx ?_
  rw [hb.cell (p := ⟨w.heap.size, 0, none⟩) (by simp)]
  simp
theorem digit_nat (n : Nat) (h : n < 10) : ((UInt8.ofNat (48 + n)).toNat : Int) = 48 + (n : Int) := by
  have : (UInt8.ofNat (48 + n)).toNat = 48 + n := by
    rw [UInt8.toNat_ofNat']
    omega
  omega

theorem dec_one (n : Nat) (h : n < 10) (w : World) :
    Calls Tryd.prog 24 #[.int .i64 n] w fun e w' => e = .returned (.string ⟨#[UInt8.ofNat (48 + n)]⟩) ∧ Below w.heap.size w w' := by
  have h1 : (n : Int) < 10 := by omega
  have hr := fun w => one_byte w (UInt8.ofNat (48 + n)) (48 + (n : Int)) (digit_nat n h)
  generalize UInt8.ofNat (48 + n) = c at *
  clear h
  go_enter Tryd.func24, Tryd.ntmps24
  go_wp2
  go_ret
  exact ⟨rfl, (Below.refl _ _).alloc (Nat.le_refl _) _⟩

theorem bl1 {w w1 : World} (hb : Below w.drew.heap.size w.drew w1) (o : Obj) : Below w.heap.size w (w1.alloc o) :=
  (show Below w.heap.size w w1 from ⟨hb.os, hb.tape, hb.output, hb.size, hb.block⟩).alloc hb.size o
theorem bl2 {w w1 : World} {o : Obj} (hb : Below (w.alloc o).drew.heap.size (w.alloc o).drew w1) : Below w.heap.size w w1 := by
  have h1 : Below w.heap.size w (w.alloc o).drew := ((Below.refl _ _).alloc (Nat.le_refl _) _).drew
  exact h1.trans (hb.mono (by simp))
theorem tens (n : Nat) (h : n ≤ 9223372036854775807) : (n : Int).tdiv 10 = ((n / 10 : Nat) : Int) ∧ (n : Int).tmod 10 = ((n % 10 : Nat) : Int) ∧ IntKind.i64.wrap ((n / 10 : Nat) : Int) = ((n / 10 : Nat) : Int) := by
  refine ⟨?_, ?_, by rw [IntKind.wrap_i64]; omega⟩
  · rw [Int.tdiv_eq_ediv_of_nonneg (by omega)]; omega
  · rw [Int.tmod_eq_emod_of_nonneg (by omega)]; omega

set_option maxHeartbeats 400000 in
theorem dec_more (n : Nat) (h : 10 ≤ n) (h2 : n ≤ 9223372036854775807) (l : List UInt8) (hl : l.length ≤ 100) (w : World)
    (ih : ∀ (x : Int) w, x = ((n / 10 : Nat) : Int) → Calls Tryd.prog 24 #[.int .i64 x] w fun e w' => e = .returned (.string ⟨l.toArray⟩) ∧ Below w.heap.size w w') :
    Calls Tryd.prog 24 #[.int .i64 n] w fun e w' => e = .returned (.string ⟨(l ++ [UInt8.ofNat (48 + n % 10)]).toArray⟩) ∧ Below w.heap.size w w' := by
  have h1 : (10 : Int) ≤ (n : Int) := by omega
  have h3 : (n : Int) ≤ 9223372036854775807 := by omega
  have hr := fun w => one_byte w (UInt8.ofNat (48 + n % 10)) (48 + ((n % 10 : Nat) : Int)) (digit_nat (n % 10) (by omega))
  have HX := hide (digit_nat (n % 10) (by omega))
  have hr2 := fun (w : World) => one_at (w.alloc (.cells #[.int .u8 (48 + ((n % 10 : Nat) : Int))] 5)).drew w.heap.size (UInt8.ofNat (48 + n % 10)) (48 + ((n % 10 : Nat) : Int)) (digit_nat (n % 10) (by omega)) (by simp)
  have hs := fun (w : World) (c : UInt8) => run_string_add_lists (P := Tryd.prog) (w := w) l [c] (by omega) (by simp)
  have IH := hide ih
  obtain ⟨e1, e2, e3⟩ := tens n h2
  have e4 : IntKind.i64.wrap (48 + ((n % 10 : Nat) : Int)) = 48 + ((n % 10 : Nat) : Int) := by rw [IntKind.wrap_i64]; omega
  have e5 : IntKind.u8.wrap (48 + ((n % 10 : Nat) : Int)) = 48 + ((n % 10 : Nat) : Int) := by rw [IntKind.wrap_u8]; omega
  have hlt : n % 10 < 10 := by omega
  generalize UInt8.ofNat (48 + n % 10) = c at *
  generalize n % 10 = r at *
  generalize n / 10 = q at *
  clear ih
  go_enter Tryd.func24, Tryd.ntmps24
  go_wp2_with fail
  go_region_with ((go_at_call 24; refine (IH.out _ _ ?_).mono ?_; (first | rfl | (simp [e1, e2, e3]; done)); rintro e w1 ⟨rfl, hb1⟩; try (have hcv := one_after HX.out hb1)))
  all_goals go_wp2
  all_goals go_ret
  all_goals first
    | exact ⟨rfl, bl1 hb1 _⟩
    | exact ⟨rfl, bl2 hb1⟩

theorem decF_len (f n : Nat) : (decF f n).length ≤ f + 1 := by
  induction f generalizing n with
  | zero => simp [decF]
  | succ f ih =>
    unfold decF
    split
    · simp
    · have := ih (n / 10)
      simp
      omega

/- any number below 10^(f+1) -/
theorem dec_any (f n : Nat) (hf : f ≤ 18) (h : n < 10 ^ (f + 1)) (h2 : n ≤ 9223372036854775807) (w : World) :
    Calls Tryd.prog 24 #[.int .i64 n] w fun e w' => e = .returned (.string ⟨(decF f n).toArray⟩) ∧ Below w.heap.size w w' := by
  induction f generalizing n w with
  | zero =>
    have hn : n < 10 := by simpa using h
    have e : decF 0 n = [UInt8.ofNat (48 + n)] := by unfold decF; rw [Nat.mod_eq_of_lt hn]
    rw [e]
    exact dec_one n hn w
  | succ f ih =>
    by_cases hn : n < 10
    · have e : decF (f + 1) n = [UInt8.ofNat (48 + n)] := by unfold decF; rw [if_pos hn]
      rw [e]
      exact dec_one n hn w
    · have e : decF (f + 1) n = decF f (n / 10) ++ [UInt8.ofNat (48 + n % 10)] := by rw [decF, if_neg hn]
      rw [e]
      have hl := decF_len f (n / 10)
      refine dec_more n (by omega) h2 (decF f (n / 10)) (by omega) w ?_
      intro x w' hx
      subst hx
      refine ih (n / 10) (by omega) ?_ (by omega) w'
      rw [Nat.pow_succ] at h
      omega
end Go.Proofs.YthhhepbflggojaaDoor.D2
