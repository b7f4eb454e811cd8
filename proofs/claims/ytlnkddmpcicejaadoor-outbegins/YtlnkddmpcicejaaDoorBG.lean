/-
  Joined: O5FlatB, O5Flat0, O5Flat1, O5Flat2, O5Flat3.
-/
import Derived.Test.YtlnkddmpcicejaaDoorBA
/-
  What serves at the reference's flat (chapter 5).
-/
namespace Go.Proofs.YtlnkddmpcicejaaDoor
open Go.RowKit Go.Deep
theorem tx_nil (tx : ByteArray) : tx.toList = [] ↔ tx.size = 0 := by
  rw [Lib.toList_data, Lib.size_eq, List.length_eq_zero_iff]
/- a field that is not the kind's own and not zero -/
def Odd (k : Int) (fl : Bool) (nm : Int) (tx : ByteArray) (kn n : Nat) : Prop :=
  (fl = true ∧ k ≠ 1) ∨ (nm ≠ 0 ∧ k ≠ 2 ∧ k ≠ 3 ∧ k ≠ 8) ∨ (¬ tx.toList = [] ∧ k ≠ 4 ∧ k ≠ 5) ∨ (0 < kn ∧ k ≠ 7) ∨ (0 < n ∧ k ≠ 6 ∧ k ≠ 7)
def tailV (p : Pay) (n : Nat) : Bool :=
  if p.kind = 2 then inB p.num
  else if p.kind = 3 then inB p.num && decide (p.num % 65536 ≠ 0)
  else if p.kind = 4 then nameB p.text.data.toList
  else if p.kind = 5 then decide (p.text.size ≤ 65536)
  else if p.kind = 7 then decide (p.keys.length = n) && keysB [] p.keys
  else if p.kind = 8 then decide (1 ≤ p.num ∧ p.num ≤ 4096)
  else p.kind == 0 || p.kind == 1 || p.kind == 6
theorem flatV_odd {k : Int} {fl : Bool} {nm : Int} {tx : ByteArray} {ks : List ByteArray} {n : Nat} (h : Odd k fl nm tx ks.length n) : flatV ⟨k, fl, nm, tx, ks⟩ n = false := by
  unfold flatV
  rw [Bool.and_eq_false_iff]
  left
  rcases h with ⟨h, h1⟩ | ⟨h, h1, h2, h3⟩ | ⟨h, h1, h2⟩ | ⟨h, h1⟩ | ⟨h, h1, h2⟩
  · simp [h, h1]
  · simp [h, h1, h2, h3]
  · rw [tx_nil] at h
    simp [h, h1, h2]
  · have : ks.length ≠ 0 := by omega
    simp only [bne_iff_ne, ne_eq, this, h1, not_false_eq_true, Bool.not_eq_false', Bool.or_eq_true, Bool.and_eq_true, and_self, or_true, true_or]
  · have : n ≠ 0 := by omega
    simp [this, h1, h2]
theorem flatV_even {k : Int} {fl : Bool} {nm : Int} {tx : ByteArray} {ks : List ByteArray} {n : Nat} (h : ¬ Odd k fl nm tx ks.length n) : flatV ⟨k, fl, nm, tx, ks⟩ n = tailV ⟨k, fl, nm, tx, ks⟩ n := by
  have hb : ((fl && k != 1) || (nm != 0 && k != 2 && k != 3 && k != 8) || (tx.size != 0 && k != 4 && k != 5) || (ks.length != 0 && k != 7) || (n != 0 && k != 6 && k != 7)) = false := by
    rw [Bool.eq_false_iff]
    intro hc
    apply h
    simp only [Bool.or_eq_true, Bool.and_eq_true, bne_iff_ne] at hc
    rcases hc with (((⟨h, h1⟩ | ⟨⟨⟨h, h1⟩, h2⟩, h3⟩) | ⟨⟨h, h1⟩, h2⟩) | ⟨h, h1⟩) | ⟨⟨h, h1⟩, h2⟩
    · exact Or.inl ⟨h, h1⟩
    · exact Or.inr (Or.inl ⟨h, h1, h2, h3⟩)
    · exact Or.inr (Or.inr (Or.inl ⟨by rw [tx_nil]; exact h, h1, h2⟩))
    · exact Or.inr (Or.inr (Or.inr (Or.inl ⟨by omega, h1⟩)))
    · exact Or.inr (Or.inr (Or.inr (Or.inr ⟨by omega, h1, h2⟩)))
  show (!_ && _) = _
  rw [hb]
  rfl
theorem tail3_t {nm : Int} {fl : Bool} {tx : ByteArray} {ks : List ByteArray} {n : Nat} (h : inB nm = true) : tailV ⟨3, fl, nm, tx, ks⟩ n = (nm.tmod 65536 != 0) := by
  show (inB nm && decide (nm % 65536 ≠ 0)) = _
  rw [h, Bool.true_and, Bool.eq_iff_iff]
  simp only [decide_eq_true_eq, bne_iff_ne]
  constructor <;> intro h1 h2 <;> apply h1
  · exact Int.emod_eq_zero_of_dvd (Int.dvd_of_tmod_eq_zero h2)
  · exact Int.tmod_eq_zero_of_dvd (Int.dvd_of_emod_eq_zero h2)
theorem tail3_f {nm : Int} {fl : Bool} {tx : ByteArray} {ks : List ByteArray} {n : Nat} (h : ¬ inB nm = true) : tailV ⟨3, fl, nm, tx, ks⟩ n = false := by
  show (inB nm && decide (nm % 65536 ≠ 0)) = _
  rw [Bool.eq_false_iff.2 h, Bool.false_and]
end Go.Proofs.YtlnkddmpcicejaaDoor
/-
  What the reference's flat (chapter 5) answers at the kind 0 (written by f5gen.py).
-/
namespace Go.Proofs.YtlnkddmpcicejaaDoor
open Go.RowKit Go.Deep

set_option maxRecDepth 8000 in
set_option maxHeartbeats 2000000 in
theorem flat_0 (fl : Bool) (nm : Int) (tx : ByteArray) (ks : List ByteArray) (ka : Option Addr) (kc : Nat) (ia : Option Addr) (n ic : Nat) (w : World) (_ : tx.size ≤ 9223372036854775807) :
    Calls Tryd.prog 29 #[ov ⟨0, fl, nm, tx, ks⟩ ka kc ia n ic] w fun e w' => e = .returned (.bool (flatV ⟨0, fl, nm, tx, ks⟩ n)) ∧ Below w.heap.size w w' := by
  obtain ⟨R, hR⟩ : ∃ R, flatV ⟨0, fl, nm, tx, ks⟩ n = R := ⟨_, rfl⟩
  rw [hR]
  have HR := hide hR
  clear hR
  go_enter Tryd.func29, Tryd.ntmps29
  simp only [List.append_eq, List.cons_append, List.nil_append]
  go_wp2_with fail
  all_goals
    go_ret
    refine ⟨?_, (Below.refl _ _).alloc (Nat.le_refl _) _⟩
    first
    | (have hb : R = false := by
         rw [← HR.out]
         refine flatV_odd ?_
         first
         | exact Or.inl ⟨by assumption, by decide⟩
         | exact Or.inl ⟨rfl, by decide⟩
         | exact Or.inr (Or.inl ⟨by assumption, by decide⟩)
         | exact Or.inr (Or.inr (Or.inl ⟨by assumption, by decide⟩))
         | exact Or.inr (Or.inr (Or.inr (Or.inl ⟨by omega, by decide⟩)))
         | exact Or.inr (Or.inr (Or.inr (Or.inr ⟨by omega, by decide⟩)))
       subst hb
       exact rfl)
    | (have hb := HR.out
       rw [flatV_even (by
         rintro (⟨g, g1⟩ | ⟨g, g1, g2, g3⟩ | ⟨g, g1, g2⟩ | ⟨g, g1⟩ | ⟨g, g1, g2⟩) <;> first | contradiction | omega | (cases g; done) | simp_all)] at hb
       subst hb
       rfl)
end Go.Proofs.YtlnkddmpcicejaaDoor
/-
  What the reference's flat (chapter 5) answers at the kind 1 (written by f5gen.py).
-/
namespace Go.Proofs.YtlnkddmpcicejaaDoor
open Go.RowKit Go.Deep

set_option maxRecDepth 8000 in
set_option maxHeartbeats 2000000 in
theorem flat_1 (fl : Bool) (nm : Int) (tx : ByteArray) (ks : List ByteArray) (ka : Option Addr) (kc : Nat) (ia : Option Addr) (n ic : Nat) (w : World) (_ : tx.size ≤ 9223372036854775807) :
    Calls Tryd.prog 29 #[ov ⟨1, fl, nm, tx, ks⟩ ka kc ia n ic] w fun e w' => e = .returned (.bool (flatV ⟨1, fl, nm, tx, ks⟩ n)) ∧ Below w.heap.size w w' := by
  obtain ⟨R, hR⟩ : ∃ R, flatV ⟨1, fl, nm, tx, ks⟩ n = R := ⟨_, rfl⟩
  rw [hR]
  have HR := hide hR
  clear hR
  go_enter Tryd.func29, Tryd.ntmps29
  simp only [List.append_eq, List.cons_append, List.nil_append]
  go_wp2_with fail
  all_goals
    go_ret
    refine ⟨?_, (Below.refl _ _).alloc (Nat.le_refl _) _⟩
    first
    | (have hb : R = false := by
         rw [← HR.out]
         refine flatV_odd ?_
         first
         | exact Or.inl ⟨by assumption, by decide⟩
         | exact Or.inl ⟨rfl, by decide⟩
         | exact Or.inr (Or.inl ⟨by assumption, by decide⟩)
         | exact Or.inr (Or.inr (Or.inl ⟨by assumption, by decide⟩))
         | exact Or.inr (Or.inr (Or.inr (Or.inl ⟨by omega, by decide⟩)))
         | exact Or.inr (Or.inr (Or.inr (Or.inr ⟨by omega, by decide⟩)))
       subst hb
       exact rfl)
    | (have hb := HR.out
       rw [flatV_even (by
         rintro (⟨g, g1⟩ | ⟨g, g1, g2, g3⟩ | ⟨g, g1, g2⟩ | ⟨g, g1⟩ | ⟨g, g1, g2⟩) <;> first | contradiction | omega | (cases g; done) | simp_all)] at hb
       subst hb
       rfl)
end Go.Proofs.YtlnkddmpcicejaaDoor
/-
  What the reference's flat (chapter 5) answers at the kind 2 (written by f5gen.py).
-/
namespace Go.Proofs.YtlnkddmpcicejaaDoor
open Go.RowKit Go.Deep

set_option maxRecDepth 8000 in
set_option maxHeartbeats 2000000 in
theorem flat_2 (fl : Bool) (nm : Int) (tx : ByteArray) (ks : List ByteArray) (ka : Option Addr) (kc : Nat) (ia : Option Addr) (n ic : Nat) (w : World) (_ : tx.size ≤ 9223372036854775807) :
    Calls Tryd.prog 29 #[ov ⟨2, fl, nm, tx, ks⟩ ka kc ia n ic] w fun e w' => e = .returned (.bool (flatV ⟨2, fl, nm, tx, ks⟩ n)) ∧ Below w.heap.size w w' := by
  obtain ⟨R, hR⟩ : ∃ R, flatV ⟨2, fl, nm, tx, ks⟩ n = R := ⟨_, rfl⟩
  rw [hR]
  have HR := hide hR
  clear hR
  go_enter Tryd.func29, Tryd.ntmps29
  simp only [List.append_eq, List.cons_append, List.nil_append]
  go_wp2_with (go_at_call 35; refine (rin_any _ _).mono ?_; rintro e w1 ⟨rfl, rfl⟩)
  all_goals
    go_ret
    refine ⟨?_, (Below.refl _ _).alloc (Nat.le_refl _) _⟩
    first
    | (have hb : R = false := by
         rw [← HR.out]
         refine flatV_odd ?_
         first
         | exact Or.inl ⟨by assumption, by decide⟩
         | exact Or.inl ⟨rfl, by decide⟩
         | exact Or.inr (Or.inl ⟨by assumption, by decide⟩)
         | exact Or.inr (Or.inr (Or.inl ⟨by assumption, by decide⟩))
         | exact Or.inr (Or.inr (Or.inr (Or.inl ⟨by omega, by decide⟩)))
         | exact Or.inr (Or.inr (Or.inr (Or.inr ⟨by omega, by decide⟩)))
       subst hb
       exact rfl)
    | (have hb := HR.out
       rw [flatV_even (by
         rintro (⟨g, g1⟩ | ⟨g, g1, g2, g3⟩ | ⟨g, g1, g2⟩ | ⟨g, g1⟩ | ⟨g, g1, g2⟩) <;> first | contradiction | omega | (cases g; done) | simp_all)] at hb
       subst hb
       first | rfl | (have hz : nm = 0 := (by assumption); subst hz; rfl))
end Go.Proofs.YtlnkddmpcicejaaDoor
/-
  What the reference's flat (chapter 5) answers at the kind 3 (written by f5gen.py).
-/
namespace Go.Proofs.YtlnkddmpcicejaaDoor
open Go.RowKit Go.Deep

set_option maxRecDepth 8000 in
set_option maxHeartbeats 2000000 in
theorem flat_3 (fl : Bool) (nm : Int) (tx : ByteArray) (ks : List ByteArray) (ka : Option Addr) (kc : Nat) (ia : Option Addr) (n ic : Nat) (w : World) (_ : tx.size ≤ 9223372036854775807) :
    Calls Tryd.prog 29 #[ov ⟨3, fl, nm, tx, ks⟩ ka kc ia n ic] w fun e w' => e = .returned (.bool (flatV ⟨3, fl, nm, tx, ks⟩ n)) ∧ Below w.heap.size w w' := by
  obtain ⟨R, hR⟩ : ∃ R, flatV ⟨3, fl, nm, tx, ks⟩ n = R := ⟨_, rfl⟩
  rw [hR]
  have HR := hide hR
  clear hR
  go_enter Tryd.func29, Tryd.ntmps29
  simp only [List.append_eq, List.cons_append, List.nil_append]
  go_wp2_with (go_at_call 35; refine (rin_any _ _).mono ?_; rintro e w1 ⟨rfl, rfl⟩)
  all_goals
    go_ret
    refine ⟨?_, (Below.refl _ _).alloc (Nat.le_refl _) _⟩
    first
    | (have hb : R = false := by
         rw [← HR.out]
         refine flatV_odd ?_
         first
         | exact Or.inl ⟨by assumption, by decide⟩
         | exact Or.inl ⟨rfl, by decide⟩
         | exact Or.inr (Or.inl ⟨by assumption, by decide⟩)
         | exact Or.inr (Or.inr (Or.inl ⟨by assumption, by decide⟩))
         | exact Or.inr (Or.inr (Or.inr (Or.inl ⟨by omega, by decide⟩)))
         | exact Or.inr (Or.inr (Or.inr (Or.inr ⟨by omega, by decide⟩)))
       subst hb
       exact rfl)
    | (have hb := HR.out
       rw [flatV_even (by
         rintro (⟨g, g1⟩ | ⟨g, g1, g2, g3⟩ | ⟨g, g1, g2⟩ | ⟨g, g1⟩ | ⟨g, g1, g2⟩) <;> first | contradiction | omega | (cases g; done) | simp_all)] at hb
       subst hb
       first | rfl | (have hz : nm = 0 := (by assumption); subst hz; simp [tailV]; done) | exact congrArg (fun b => Ending.returned (.bool b)) (tail3_t (by assumption)).symm | exact congrArg (fun b => Ending.returned (.bool b)) (tail3_f (by assumption)).symm)
end Go.Proofs.YtlnkddmpcicejaaDoor
