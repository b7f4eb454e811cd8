/-
  What the reference's flat, good, Count and Good (chapter 5) answer, at every object.
-/
import Derived.Test.YtcgoklacjniemaaGreatDoorO5Good
import Derived.Test.YtcgoklacjniemaaGreatDoorO5Flat0
import Derived.Test.YtcgoklacjniemaaGreatDoorO5Flat1
import Derived.Test.YtcgoklacjniemaaGreatDoorO5Flat2
import Derived.Test.YtcgoklacjniemaaGreatDoorO5Flat3
import Derived.Test.YtcgoklacjniemaaGreatDoorO5Flat4
import Derived.Test.YtcgoklacjniemaaGreatDoorO5Flat5
import Derived.Test.YtcgoklacjniemaaGreatDoorO5Flat6
import Derived.Test.YtcgoklacjniemaaGreatDoorO5Flat7
import Derived.Test.YtcgoklacjniemaaGreatDoorO5Flat8
import Derived.Test.YtcgoklacjniemaaGreatDoorO5FlatN
namespace Go.Proofs.YtcgoklacjniemaaGreatDoor
open Go.RowKit Go.Deep

theorem flat_any : FlatC := by
  rintro ⟨kd, fl, nm, tx, ks⟩ T ka kc ia ic w ⟨⟨_, _, hs, hz⟩, ⟨hk, ⟨hkc, _⟩, hkc'⟩, _⟩
  by_cases k0 : kd = 0
  · subst k0; exact flat_0 fl nm tx ks ka kc ia (flen T) ic w hs
  by_cases k1 : kd = 1
  · subst k1; exact flat_1 fl nm tx ks ka kc ia (flen T) ic w hs
  by_cases k2 : kd = 2
  · subst k2; exact flat_2 fl nm tx ks ka kc ia (flen T) ic w hs
  by_cases k3 : kd = 3
  · subst k3; exact flat_3 fl nm tx ks ka kc ia (flen T) ic w hs
  by_cases k4 : kd = 4
  · subst k4; exact flat_4 fl nm tx ks ka kc ia (flen T) ic w hs
  by_cases k5 : kd = 5
  · subst k5; exact flat_5 fl nm tx ks ka kc ia (flen T) ic w hs
  by_cases k6 : kd = 6
  · subst k6; exact flat_6 fl nm tx ks ka kc ia (flen T) ic w hs
  by_cases k7 : kd = 7
  · subst k7; exact flat_7 fl nm tx ks ka kc ia (flen T) ic w hk (Nat.le_trans hkc hkc') hz
  by_cases k8 : kd = 8
  · subst k8; exact flat_8 fl nm tx ks ka kc ia (flen T) ic w hs
  exact flat_none kd fl nm tx ks ka kc ia (flen T) ic w hs (beq_eq_false_iff_ne.2 k0) (beq_eq_false_iff_ne.2 k1) (beq_eq_false_iff_ne.2 k2) (beq_eq_false_iff_ne.2 k3) (beq_eq_false_iff_ne.2 k4) (beq_eq_false_iff_ne.2 k5)
    (beq_eq_false_iff_ne.2 k6) (beq_eq_false_iff_ne.2 k7) (beq_eq_false_iff_ne.2 k8)

/- how many objects there are; -1: it is not good -/
def cntV (p : Pay) (T : BT Pay) : Int := goodV p T 0 0

theorem rcount_any (p : Pay) (T : BT Pay) (ka : Option Addr) (kc : Nat) (ia : Option Addr) (ic : Nat) (w : World) (hin : OIn w p T ka kc ia ic) :
    Calls Tryz.prog 22 #[ov p ka kc ia (flen T) ic] w fun e w' => e = .returned (.int .i64 (cntV p T)) ∧ Below w.heap.size w w' := by
  have C := hide (fun w' h => good_core flat_any (fsize T + 1) p T ka kc ia ic 0 0 w' (Nat.lt_succ_self _) (OIn.below (w := w) (w' := w') h hin) (by omega) (by omega) (by omega) (by omega))
  show Calls _ _ _ _ fun e w' => e = .returned (.int .i64 (goodV p T 0 0)) ∧ Below w.heap.size w w'
  generalize goodV p T 0 0 = r at C ⊢
  go_enter Tryz.func22, Tryz.ntmps22
  go_wp2_with (go_at_call 35; refine (C.out _ ((Below.refl _ _).alloc (Nat.le_refl _) _)).mono ?_; rintro e wz ⟨rfl, hz⟩)
  go_ret
  exact ⟨rfl, below_t5 ((Below.refl _ _).alloc (Nat.le_refl _) _) hz⟩

theorem rgood_any (p : Pay) (T : BT Pay) (ka : Option Addr) (kc : Nat) (ia : Option Addr) (ic : Nat) (w : World) (hin : OIn w p T ka kc ia ic) :
    Calls Tryz.prog 13 #[ov p ka kc ia (flen T) ic] w fun e w' => e = .returned (.bool (decide (0 < cntV p T))) ∧ Below w.heap.size w w' := by
  have C := hide (fun w' h => rcount_any p T ka kc ia ic w' (OIn.below (w := w) (w' := w') h hin))
  generalize cntV p T = r at C ⊢
  go_enter Tryz.func13, Tryz.ntmps13
  go_wp2_with (go_at_call 22; refine (C.out _ ((Below.refl _ _).alloc (Nat.le_refl _) _)).mono ?_; rintro e wz ⟨rfl, hz⟩)
  go_ret
  exact ⟨rfl, below_t5 ((Below.refl _ _).alloc (Nat.le_refl _) _) hz⟩
end Go.Proofs.YtcgoklacjniemaaGreatDoor
