/-
  What eight (of chapter 2's laws) answers: eight digits of a number.
-/
import Derived.Test.YtdmfmiejjghfnaaDoorD2Nearest
import Derived.Lib.SlBytesConst
namespace Go.Proofs.YtdmfmiejjghfnaaDoor
open Go.RowKit

def lastD : Nat → Nat → List UInt8
  | 0, _ => []
  | k + 1, n => lastD k (n / 10) ++ [dgB (n % 10)]
theorem lastD_spec (k n : Nat) : (lastD k n).length = k ∧ (lastD k n).all isDig = true ∧ val (lastD k n) = n % 10 ^ k := by
  induction k generalizing n with
  | zero => refine ⟨rfl, rfl, ?_⟩; rw [Nat.pow_zero, Nat.mod_one]; rfl
  | succ k ih =>
    obtain ⟨h1, h2, h3⟩ := ih (n / 10)
    have hd := dgB_dig (n % 10) (by omega)
    unfold lastD
    refine ⟨by simp [h1], by rw [List.all_append, h2]; simp [hd.1], ?_⟩
    rw [val_snoc, h3, hd.2, Nat.pow_succ, Nat.mul_comm (10 ^ k) 10, Nat.mod_mul]
    omega
/- bytes that lie in a block, none of them frozen -/
def BRow (w : World) (g : Nat) (ys : List UInt8) : Prop := ∀ i (h : i < ys.length), w.cell? ⟨g, i, none⟩ = some (bcell ys[i]) ∧ w.frozen? ⟨g, i, none⟩ = false
theorem BRow.stored {w : World} {g : Nat} {ys : List UInt8} (h : BRow w g ys) (j : Nat) (x : UInt8) : BRow (w.setCell ⟨g, j, none⟩ (bcell x)) g (ys.set j x) := by
  intro i hi
  have hi' : i < ys.length := by simpa using hi
  obtain ⟨h1, h2⟩ := h i hi'
  refine ⟨?_, by rw [World.frozen?_setCell]; exact h2⟩
  by_cases e : j = i
  · subst e
    rw [World.cell?_setCell_same _ _ _ h1]
    simp
  · have hne : (⟨g, j, none⟩ : Addr) ≠ ⟨g, i, none⟩ := by intro h; injection h with _ h; exact e h
    have hc : (w.setCell ⟨g, j, none⟩ (bcell x)).cell? ⟨g, i, none⟩ = w.cell? ⟨g, i, none⟩ := by apply World.cell?_setCell_other; exact hne
    rw [hc, h1]
    simp [e]
theorem BRow.text {w : World} {g : Nat} {ys : List UInt8} (h : BRow w g ys) (cap n : Nat) (hn : ys.length = n) :
    (convert 36 9 (.slice (some ⟨g, 0, none⟩) n cap)).run Tryd.prog w = .ok (.string ⟨ys.toArray⟩) w := by
  subst hn
  refine run_convert_bytes_back (P := Tryd.prog) w 36 9 5 ⟨g, 0, none⟩ cap ys Tryd.underlying36 Tryd.underlying5 Tryd.underlying9 ?_
  intro k hk
  rw [Go.WideShapes.add_plain, Nat.zero_add, (h k hk).1]
  rfl
theorem rep_set (j : Nat) (x : UInt8) (ts : List UInt8) : (List.replicate (j + 1) (48 : UInt8) ++ ts).set j x = List.replicate j 48 ++ x :: ts := by
  rw [List.set_append, if_pos (by simp), List.replicate_succ', List.set_append, if_neg (by simp)]
  simp

set_option maxHeartbeats 1000000 in
theorem eight_core (n : Nat) (w : World) (h : (n : Int) ≤ 99999999) (R : List UInt8) (hR : lastD 8 n = R) :
    Calls Tryd.prog 16 #[.int .i64 n] w fun e w' => e = .returned (.string ⟨R.toArray⟩) ∧ Below w.heap.size w w' := by
  have kc := fun (w : World) (C : Array Value) (n c : Nat) => Lib.run_convert_bytes_const (P := Tryd.prog) w 36 5 C n c Tryd.underlying36 Tryd.underlying5
  have HR := hide hR
  have HB0 := hide (show Below w.heap.size w (w.alloc (.cells #[.int .u8 48, .int .u8 48, .int .u8 48, .int .u8 48, .int .u8 48, .int .u8 48, .int .u8 48, .int .u8 48] 5 (8, 9))) from (Below.refl _ _).alloc (Nat.le_refl _) _)
  have HW0 := hide (show BRow (w.alloc (.cells #[.int .u8 48, .int .u8 48, .int .u8 48, .int .u8 48, .int .u8 48, .int .u8 48, .int .u8 48, .int .u8 48] 5 (8, 9))) w.heap.size (List.replicate 8 48) by
    intro i hi
    have hi' : i < 8 := by simpa using hi
    have hh : (w.alloc (.cells #[.int .u8 48, .int .u8 48, .int .u8 48, .int .u8 48, .int .u8 48, .int .u8 48, .int .u8 48, .int .u8 48] 5 (8, 9))).heap[w.heap.size]? = some (.cells #[.int .u8 48, .int .u8 48, .int .u8 48, .int .u8 48, .int .u8 48, .int .u8 48, .int .u8 48, .int .u8 48] 5 (8, 9)) := heap_alloc_new _ _
    constructor
    · unfold World.cell?
      rw [hh]
      match i, hi' with
      | 0, _ => rfl
      | 1, _ => rfl
      | 2, _ => rfl
      | 3, _ => rfl
      | 4, _ => rfl
      | 5, _ => rfl
      | 6, _ => rfl
      | 7, _ => rfl
    · unfold World.frozen?
      rw [hh]
      simp
      omega)
  clear hR
  go_enter Tryd.func16, Tryd.ntmps16
  go_wp2_with fail
  go_loopw [0, 4] (fun vn vi wr => ∃ (j m : Nat) (x : Int) (ts : List UInt8), vi = .int .i64 x ∧ vn = .int .i64 m ∧ Hid (x = (j : Int) - 1 ∧ j ≤ 8 ∧ m ≤ 99999999 ∧ ts.length = 8 - j ∧ lastD j m ++ ts = R ∧ Below w.heap.size w wr ∧ BRow wr w.heap.size (List.replicate j 48 ++ ts))) (fun _ vi _ => (intOf vi + 1).toNat)
  case atStart => exact ⟨8, n, 7, [], rfl, rfl, hide ⟨rfl, by omega, by omega, rfl, by rw [List.append_nil]; exact HR.out, HB0.out, by rw [List.append_nil]; exact HW0.out⟩⟩
  case round =>
    obtain ⟨j, m, x, ts, rfl, rfl, HK⟩ := hrel
    obtain ⟨k1, k2, k3, k4, k5, k6, k7⟩ := HK.out
    clear HK kc
    cases j with
    | zero =>
      obtain rfl : x = -1 := by omega
      obtain rfl : ts = R := k5
      have hcv := k7.text 8 8 (by simp; omega)
      have K6 := hide k6
      clear k1 k2 k3 k4 k6 k7
      go_wp2
      go_ret
      exact ⟨by simp, K6.out⟩
    | succ k =>
      obtain rfl : x = (k : Int) := by omega
      have hk' : (k : Int) ≤ 7 := by omega
      have hm' : (m : Int) ≤ 99999999 := by omega
      obtain ⟨hc, hf⟩ := k7 k (by simp; omega)
      have K7 := k7.stored k (dgB (m % 10))
      rw [rep_set] at K7
      have K5 : lastD k (m / 10) ++ (dgB (m % 10) :: ts) = R := by rw [← k5, show lastD (k + 1) m = lastD k (m / 10) ++ [dgB (m % 10)] from rfl, List.append_assoc]; rfl
      have HQM := hide (show m = 10 * (m / 10) + m % 10 ∧ m % 10 < 10 by omega)
      have hM : m % 10 < 10 := by omega
      have hb : bcell (dgB (m % 10)) = .int .u8 (48 + ((m % 10 : Nat) : Int)) := by unfold bcell; rw [dgB_nat _ hM]; congr 1
      rw [hb] at K7
      have hm2 : m / 10 ≤ 99999999 := by omega
      obtain ⟨y, hy⟩ : ∃ y, wr.cell? ⟨w.heap.size, k, none⟩ = some (.int .u8 y) := ⟨_, hc⟩
      have HM2 := hide hm2
      have H5 := hide K5
      have H6 := hide k6
      have e1 : (m : Int) / 10 = ((m / 10 : Nat) : Int) := by omega
      have e2 : (m : Int) % 10 = ((m % 10 : Nat) : Int) := by omega
      have H4 := hide k4
      generalize m / 10 = Q at *
      generalize m % 10 = M at *
      have hM' : (M : Int) ≤ 9 := by omega
      have H7 := hide K7
      clear k1 k2 k3 k4 k5 k6 k7 K5 K7 hM hm2 hb hc
      go_wp2
      go_roundw
      case rel =>
        refine ⟨k, Q, _, dgB M :: ts, rfl, ?_, hide ⟨by omega, by omega, HM2.out, by have := H4.out; simp; omega, H5.out, H6.out.setCell (Nat.le_refl _) _, ?_⟩⟩
        · first | rfl | exact congrArg _ e1
        · first | exact H7.out | (rw [e2]; exact H7.out)
      case measure => simp [intOf]; try omega
theorem eight_any (n : Nat) (w : World) (h : (n : Int) ≤ 99999999) :
    Calls Tryd.prog 16 #[.int .i64 n] w fun e w' => e = .returned (.string ⟨(lastD 8 n).toArray⟩) ∧ Below w.heap.size w w' := eight_core n w h _ rfl
end Go.Proofs.YtdmfmiejjghfnaaDoor
