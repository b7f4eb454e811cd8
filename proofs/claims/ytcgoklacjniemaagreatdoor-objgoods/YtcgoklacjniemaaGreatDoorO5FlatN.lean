/-
  What the reference's flat (chapter 5) answers at a kind that is none.
-/
import Derived.Test.YtcgoklacjniemaaGreatDoorO5FlatB
namespace Go.Proofs.YtcgoklacjniemaaGreatDoor
open Go.RowKit Go.Deep

set_option maxRecDepth 8000 in
set_option maxHeartbeats 2000000 in
theorem flat_none (kd : Int) (fl : Bool) (nm : Int) (tx : ByteArray) (ks : List ByteArray) (ka : Option Addr) (kc : Nat) (ia : Option Addr) (n ic : Nat) (w : World) (_ : tx.size ≤ 9223372036854775807)
    (k0 : (kd == 0) = false) (k1 : (kd == 1) = false) (k2 : (kd == 2) = false) (k3 : (kd == 3) = false) (k4 : (kd == 4) = false) (k5 : (kd == 5) = false) (k6 : (kd == 6) = false) (k7 : (kd == 7) = false) (k8 : (kd == 8) = false) :
    Calls Tryz.prog 65 #[ov ⟨kd, fl, nm, tx, ks⟩ ka kc ia n ic] w fun e w' => e = .returned (.bool (flatV ⟨kd, fl, nm, tx, ks⟩ n)) ∧ Below w.heap.size w w' := by
  have hv : flatV ⟨kd, fl, nm, tx, ks⟩ n = false := by
    unfold flatV
    rw [beq_eq_false_iff_ne] at k0 k1 k2 k3 k4 k5 k6 k7 k8
    simp only [k2, k3, k4, k5, k7, k8, if_false]
    simp [k0, k1, k6]
  rw [hv]
  clear hv
  have n1 : (kd != 1) = true := by simpa using k1
  have n2 : (kd != 2) = true := by simpa using k2
  have n3 : (kd != 3) = true := by simpa using k3
  have n4 : (kd != 4) = true := by simpa using k4
  have n5 : (kd != 5) = true := by simpa using k5
  have n6 : (kd != 6) = true := by simpa using k6
  have n7 : (kd != 7) = true := by simpa using k7
  have n8 : (kd != 8) = true := by simpa using k8
  go_enter Tryz.func65, Tryz.ntmps65
  simp only [List.append_eq, List.cons_append, List.nil_append]
  go_wp2_with fail
  all_goals
    go_ret
    exact ⟨rfl, (Below.refl _ _).alloc (Nat.le_refl _) _⟩
end Go.Proofs.YtcgoklacjniemaaGreatDoor
