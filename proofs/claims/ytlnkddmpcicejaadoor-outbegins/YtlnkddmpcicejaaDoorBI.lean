/-
  Joined: O5Flat4, O5Flat5, O5Flat6, O5Flat8, O5FlatN.
-/
import Derived.Test.YtlnkddmpcicejaaDoorBG
/-
  What the reference's flat (chapter 5) answers at the kind 4 (written by f5gen.py).
-/
namespace Go.Proofs.YtlnkddmpcicejaaDoor
open Go.RowKit Go.Deep

set_option maxRecDepth 8000 in
set_option maxHeartbeats 2000000 in
theorem flat_4 (fl : Bool) (nm : Int) (tx : ByteArray) (ks : List ByteArray) (ka : Option Addr) (kc : Nat) (ia : Option Addr) (n ic : Nat) (w : World) (hs : tx.size ≤ 9223372036854775807) :
    Calls Tryd.prog 29 #[ov ⟨4, fl, nm, tx, ks⟩ ka kc ia n ic] w fun e w' => e = .returned (.bool (flatV ⟨4, fl, nm, tx, ks⟩ n)) ∧ Below w.heap.size w w' := by
  obtain ⟨R, hR⟩ : ∃ R, flatV ⟨4, fl, nm, tx, ks⟩ n = R := ⟨_, rfl⟩
  rw [hR]
  have HR := hide hR
  clear hR
  go_enter Tryd.func29, Tryd.ntmps29
  simp only [List.append_eq, List.cons_append, List.nil_append]
  go_wp2_with (go_at_call 36; refine (rname_any tx _ hs).mono ?_; rintro e w1 ⟨rfl, rfl⟩)
  all_goals
    go_ret
    refine ⟨?_, (Below.refl _ _).alloc (Nat.le_refl _) _⟩
    first
    | (have hb : R = false := by
         rw [← HR.out]
         refine flatV_odd ?_
         first
         | exact Or.inl ⟨by assumption, by decide⟩
         | exact Or.inl ⟨rfl, by decide⟩
         | exact Or.inr (Or.inl ⟨by assumption, by decide⟩)
         | exact Or.inr (Or.inr (Or.inl ⟨by assumption, by decide⟩))
         | exact Or.inr (Or.inr (Or.inr (Or.inl ⟨by omega, by decide⟩)))
         | exact Or.inr (Or.inr (Or.inr (Or.inr ⟨by omega, by decide⟩)))
       subst hb
       exact rfl)
    | (have hb := HR.out
       rw [flatV_even (by
         rintro (⟨g, g1⟩ | ⟨g, g1, g2, g3⟩ | ⟨g, g1, g2⟩ | ⟨g, g1⟩ | ⟨g, g1, g2⟩) <;> first | contradiction | omega | (cases g; done) | simp_all)] at hb
       subst hb
       rfl)
end Go.Proofs.YtlnkddmpcicejaaDoor
/-
  What the reference's flat (chapter 5) answers at the kind 5 (written by f5gen.py).
-/
namespace Go.Proofs.YtlnkddmpcicejaaDoor
open Go.RowKit Go.Deep

set_option maxRecDepth 8000 in
set_option maxHeartbeats 2000000 in
theorem flat_5 (fl : Bool) (nm : Int) (tx : ByteArray) (ks : List ByteArray) (ka : Option Addr) (kc : Nat) (ia : Option Addr) (n ic : Nat) (w : World) (_ : tx.size ≤ 9223372036854775807) :
    Calls Tryd.prog 29 #[ov ⟨5, fl, nm, tx, ks⟩ ka kc ia n ic] w fun e w' => e = .returned (.bool (flatV ⟨5, fl, nm, tx, ks⟩ n)) ∧ Below w.heap.size w w' := by
  obtain ⟨R, hR⟩ : ∃ R, flatV ⟨5, fl, nm, tx, ks⟩ n = R := ⟨_, rfl⟩
  rw [hR]
  have HR := hide hR
  clear hR
  go_enter Tryd.func29, Tryd.ntmps29
  simp only [List.append_eq, List.cons_append, List.nil_append]
  go_wp2_with fail
  all_goals
    go_ret
    refine ⟨?_, (Below.refl _ _).alloc (Nat.le_refl _) _⟩
    first
    | (have hb : R = false := by
         rw [← HR.out]
         refine flatV_odd ?_
         first
         | exact Or.inl ⟨by assumption, by decide⟩
         | exact Or.inl ⟨rfl, by decide⟩
         | exact Or.inr (Or.inl ⟨by assumption, by decide⟩)
         | exact Or.inr (Or.inr (Or.inl ⟨by assumption, by decide⟩))
         | exact Or.inr (Or.inr (Or.inr (Or.inl ⟨by omega, by decide⟩)))
         | exact Or.inr (Or.inr (Or.inr (Or.inr ⟨by omega, by decide⟩)))
       subst hb
       exact rfl)
    | (have hb := HR.out
       rw [flatV_even (by
         rintro (⟨g, g1⟩ | ⟨g, g1, g2, g3⟩ | ⟨g, g1, g2⟩ | ⟨g, g1⟩ | ⟨g, g1, g2⟩) <;> first | contradiction | omega | (cases g; done) | simp_all)] at hb
       subst hb
       simp [tailV]; omega)
end Go.Proofs.YtlnkddmpcicejaaDoor
/-
  What the reference's flat (chapter 5) answers at the kind 6 (written by f5gen.py).
-/
namespace Go.Proofs.YtlnkddmpcicejaaDoor
open Go.RowKit Go.Deep

set_option maxRecDepth 8000 in
set_option maxHeartbeats 2000000 in
theorem flat_6 (fl : Bool) (nm : Int) (tx : ByteArray) (ks : List ByteArray) (ka : Option Addr) (kc : Nat) (ia : Option Addr) (n ic : Nat) (w : World) (_ : tx.size ≤ 9223372036854775807) :
    Calls Tryd.prog 29 #[ov ⟨6, fl, nm, tx, ks⟩ ka kc ia n ic] w fun e w' => e = .returned (.bool (flatV ⟨6, fl, nm, tx, ks⟩ n)) ∧ Below w.heap.size w w' := by
  obtain ⟨R, hR⟩ : ∃ R, flatV ⟨6, fl, nm, tx, ks⟩ n = R := ⟨_, rfl⟩
  rw [hR]
  have HR := hide hR
  clear hR
  go_enter Tryd.func29, Tryd.ntmps29
  simp only [List.append_eq, List.cons_append, List.nil_append]
  go_wp2_with fail
  all_goals
    go_ret
    refine ⟨?_, (Below.refl _ _).alloc (Nat.le_refl _) _⟩
    first
    | (have hb : R = false := by
         rw [← HR.out]
         refine flatV_odd ?_
         first
         | exact Or.inl ⟨by assumption, by decide⟩
         | exact Or.inl ⟨rfl, by decide⟩
         | exact Or.inr (Or.inl ⟨by assumption, by decide⟩)
         | exact Or.inr (Or.inr (Or.inl ⟨by assumption, by decide⟩))
         | exact Or.inr (Or.inr (Or.inr (Or.inl ⟨by omega, by decide⟩)))
         | exact Or.inr (Or.inr (Or.inr (Or.inr ⟨by omega, by decide⟩)))
       subst hb
       exact rfl)
    | (have hb := HR.out
       rw [flatV_even (by
         rintro (⟨g, g1⟩ | ⟨g, g1, g2, g3⟩ | ⟨g, g1, g2⟩ | ⟨g, g1⟩ | ⟨g, g1, g2⟩) <;> first | contradiction | omega | (cases g; done) | simp_all)] at hb
       subst hb
       rfl)
end Go.Proofs.YtlnkddmpcicejaaDoor
/-
  What the reference's flat (chapter 5) answers at the kind 8 (written by f5gen.py).
-/
namespace Go.Proofs.YtlnkddmpcicejaaDoor
open Go.RowKit Go.Deep

set_option maxRecDepth 8000 in
set_option maxHeartbeats 2000000 in
theorem flat_8 (fl : Bool) (nm : Int) (tx : ByteArray) (ks : List ByteArray) (ka : Option Addr) (kc : Nat) (ia : Option Addr) (n ic : Nat) (w : World) (_ : tx.size ≤ 9223372036854775807) :
    Calls Tryd.prog 29 #[ov ⟨8, fl, nm, tx, ks⟩ ka kc ia n ic] w fun e w' => e = .returned (.bool (flatV ⟨8, fl, nm, tx, ks⟩ n)) ∧ Below w.heap.size w w' := by
  obtain ⟨R, hR⟩ : ∃ R, flatV ⟨8, fl, nm, tx, ks⟩ n = R := ⟨_, rfl⟩
  rw [hR]
  have HR := hide hR
  clear hR
  go_enter Tryd.func29, Tryd.ntmps29
  simp only [List.append_eq, List.cons_append, List.nil_append]
  go_wp2_with fail
  all_goals
    go_ret
    refine ⟨?_, (Below.refl _ _).alloc (Nat.le_refl _) _⟩
    first
    | (have hb : R = false := by
         rw [← HR.out]
         refine flatV_odd ?_
         first
         | exact Or.inl ⟨by assumption, by decide⟩
         | exact Or.inl ⟨rfl, by decide⟩
         | exact Or.inr (Or.inl ⟨by assumption, by decide⟩)
         | exact Or.inr (Or.inr (Or.inl ⟨by assumption, by decide⟩))
         | exact Or.inr (Or.inr (Or.inr (Or.inl ⟨by omega, by decide⟩)))
         | exact Or.inr (Or.inr (Or.inr (Or.inr ⟨by omega, by decide⟩)))
       subst hb
       exact rfl)
    | (have hb := HR.out
       rw [flatV_even (by
         rintro (⟨g, g1⟩ | ⟨g, g1, g2, g3⟩ | ⟨g, g1, g2⟩ | ⟨g, g1⟩ | ⟨g, g1, g2⟩) <;> first | contradiction | omega | (cases g; done) | simp_all)] at hb
       subst hb
       first | rfl | (simp [tailV]; omega))
end Go.Proofs.YtlnkddmpcicejaaDoor
/-
  What the reference's flat (chapter 5) answers at a kind that is none.
-/
namespace Go.Proofs.YtlnkddmpcicejaaDoor
open Go.RowKit Go.Deep

set_option maxRecDepth 8000 in
set_option maxHeartbeats 2000000 in
theorem flat_none (kd : Int) (fl : Bool) (nm : Int) (tx : ByteArray) (ks : List ByteArray) (ka : Option Addr) (kc : Nat) (ia : Option Addr) (n ic : Nat) (w : World) (_ : tx.size ≤ 9223372036854775807)
    (k0 : (kd == 0) = false) (k1 : (kd == 1) = false) (k2 : (kd == 2) = false) (k3 : (kd == 3) = false) (k4 : (kd == 4) = false) (k5 : (kd == 5) = false) (k6 : (kd == 6) = false) (k7 : (kd == 7) = false) (k8 : (kd == 8) = false) :
    Calls Tryd.prog 29 #[ov ⟨kd, fl, nm, tx, ks⟩ ka kc ia n ic] w fun e w' => e = .returned (.bool (flatV ⟨kd, fl, nm, tx, ks⟩ n)) ∧ Below w.heap.size w w' := by
  have hv : flatV ⟨kd, fl, nm, tx, ks⟩ n = false := by
    unfold flatV
    rw [beq_eq_false_iff_ne] at k0 k1 k2 k3 k4 k5 k6 k7 k8
    simp only [k2, k3, k4, k5, k7, k8, if_false]
    simp [k0, k1, k6]
  rw [hv]
  clear hv
  have n1 : (kd != 1) = true := by simpa using k1
  have n2 : (kd != 2) = true := by simpa using k2
  have n3 : (kd != 3) = true := by simpa using k3
  have n4 : (kd != 4) = true := by simpa using k4
  have n5 : (kd != 5) = true := by simpa using k5
  have n6 : (kd != 6) = true := by simpa using k6
  have n7 : (kd != 7) = true := by simpa using k7
  have n8 : (kd != 8) = true := by simpa using k8
  go_enter Tryd.func29, Tryd.ntmps29
  simp only [List.append_eq, List.cons_append, List.nil_append]
  go_wp2_with fail
  all_goals
    go_ret
    exact ⟨rfl, (Below.refl _ _).alloc (Nat.le_refl _) _⟩
end Go.Proofs.YtlnkddmpcicejaaDoor
