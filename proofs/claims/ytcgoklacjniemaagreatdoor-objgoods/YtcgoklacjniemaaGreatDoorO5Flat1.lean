/-
  What the reference's flat (chapter 5) answers at the kind 1 (written by f5gen.py).
-/
import Derived.Test.YtcgoklacjniemaaGreatDoorO5FlatB
namespace Go.Proofs.YtcgoklacjniemaaGreatDoor
open Go.RowKit Go.Deep

set_option maxRecDepth 8000 in
set_option maxHeartbeats 2000000 in
theorem flat_1 (fl : Bool) (nm : Int) (tx : ByteArray) (ks : List ByteArray) (ka : Option Addr) (kc : Nat) (ia : Option Addr) (n ic : Nat) (w : World) (_ : tx.size ≤ 9223372036854775807) :
    Calls Tryz.prog 65 #[ov ⟨1, fl, nm, tx, ks⟩ ka kc ia n ic] w fun e w' => e = .returned (.bool (flatV ⟨1, fl, nm, tx, ks⟩ n)) ∧ Below w.heap.size w w' := by
  obtain ⟨R, hR⟩ : ∃ R, flatV ⟨1, fl, nm, tx, ks⟩ n = R := ⟨_, rfl⟩
  rw [hR]
  have HR := hide hR
  clear hR
  go_enter Tryz.func65, Tryz.ntmps65
  simp only [List.append_eq, List.cons_append, List.nil_append]
  go_wp2_with fail
  all_goals
    go_ret
    refine ⟨?_, (Below.refl _ _).alloc (Nat.le_refl _) _⟩
    first
    | (have hb : R = false := by
         rw [← HR.out]
         refine flatV_odd ?_
         first
         | exact Or.inl ⟨by assumption, by decide⟩
         | exact Or.inl ⟨rfl, by decide⟩
         | exact Or.inr (Or.inl ⟨by assumption, by decide⟩)
         | exact Or.inr (Or.inr (Or.inl ⟨by assumption, by decide⟩))
         | exact Or.inr (Or.inr (Or.inr (Or.inl ⟨by omega, by decide⟩)))
         | exact Or.inr (Or.inr (Or.inr (Or.inr ⟨by omega, by decide⟩)))
       subst hb
       exact rfl)
    | (have hb := HR.out
       rw [flatV_even (by
         rintro (⟨g, g1⟩ | ⟨g, g1, g2, g3⟩ | ⟨g, g1, g2⟩ | ⟨g, g1⟩ | ⟨g, g1, g2⟩) <;> first | contradiction | omega | (cases g; done) | simp_all)] at hb
       subst hb
       rfl)
end Go.Proofs.YtcgoklacjniemaaGreatDoor
