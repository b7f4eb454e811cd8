/-
  What cmap's rowsOf, row.wide, row.narrow, slices.IndexFunc, from answer.
-/
import Derived.Test.YthgpchjkeidilaaC11G
namespace Go.Proofs.Ythgpchjkeidilaa
open Go.RowKit Go.Deep
set_option linter.unusedVariables false

theorem widr_any (p e g : Nat) (w : World) : Calls Try.prog 30 #[.agg #[.int .i64 (p : Int), .int .i64 (e : Int), .int .i64 (g : Int)]] w fun en w' => en = .returned (.bool (wiR p e)) ∧ Below w.heap.size w w' := by
  have HB := hide ((Below.refl w.heap.size w).alloc (Nat.le_refl _) (.cells #[.int .i64 (p : Int), .int .i64 (e : Int), .int .i64 (g : Int)] 57))
  unfold wiR
  have q1 : ((p : Int) == 3) = decide (p = 3) := by rw [Bool.eq_iff_iff, beq_iff_eq, decide_eq_true_iff]; omega
  have q2 : ((e : Int) == 10) = decide (e = 10) := by rw [Bool.eq_iff_iff, beq_iff_eq, decide_eq_true_iff]; omega
  have q3 : ((p : Int) == 0) = decide (p = 0) := by rw [Bool.eq_iff_iff, beq_iff_eq, decide_eq_true_iff]; omega
  have q4 : ((e : Int) == 4) = decide (e = 4) := by rw [Bool.eq_iff_iff, beq_iff_eq, decide_eq_true_iff]; omega
  generalize decide (p = 3) = A at *
  generalize decide (e = 10) = B at *
  generalize decide (p = 0) = C at *
  generalize decide (e = 4) = D at *
  generalize (p : Int) = P at *
  generalize (e : Int) = E at *
  generalize (g : Int) = G at *
  cases A <;> cases B <;> cases C <;> cases D
  all_goals
    go_enter Try.func30, Try.ntmps30
    go_wp2_with fail
    go_ret
    exact ⟨rfl, HB.out⟩
theorem narr_any (p e g : Nat) (w : World) : Calls Try.prog 33 #[.agg #[.int .i64 (p : Int), .int .i64 (e : Int), .int .i64 (g : Int)]] w fun en w' => en = .returned (.bool (naR p e)) ∧ Below w.heap.size w w' := by
  have HB := hide ((Below.refl w.heap.size w).alloc (Nat.le_refl _) (.cells #[.int .i64 (p : Int), .int .i64 (e : Int), .int .i64 (g : Int)] 57))
  unfold naR
  have q1 : ((p : Int) == 3) = decide (p = 3) := by rw [Bool.eq_iff_iff, beq_iff_eq, decide_eq_true_iff]; omega
  have q2 : ((e : Int) == 1) = decide (e = 1) := by rw [Bool.eq_iff_iff, beq_iff_eq, decide_eq_true_iff]; omega
  have q3 : ((p : Int) == 0) = decide (p = 0) := by rw [Bool.eq_iff_iff, beq_iff_eq, decide_eq_true_iff]; omega
  have q4 : decide ((e : Int) ≤ 3) = decide (e ≤ 3) := by rw [Bool.eq_iff_iff, decide_eq_true_iff, decide_eq_true_iff]; omega
  generalize decide (p = 3) = A at *
  generalize decide (e = 1) = B at *
  generalize decide (p = 0) = C at *
  generalize decide (e ≤ 3) = D at *
  generalize (p : Int) = P at *
  generalize (e : Int) = E at *
  generalize (g : Int) = G at *
  cases A <;> cases B <;> cases C <;> cases D
  all_goals
    go_enter Try.func33, Try.ntmps33
    go_wp2_with fail
    go_ret
    exact ⟨rfl, HB.out⟩
/- a table's rows, as they lie -/
def RwL (w : World) (a : Option Addr) (l : List UInt8) (k : Nat) : Prop :=
  k = 0 ∨ ∃ b, a = some ⟨b, 0, none⟩ ∧ b < w.heap.size ∧ ∀ i, i < k → w.cell? ⟨b, i * 3, none⟩ = some (.int .i64 (rp l i : Int)) ∧ w.cell? ⟨b, i * 3 + 1, none⟩ = some (.int .i64 (re l i : Int)) ∧ w.cell? ⟨b, i * 3 + 2, none⟩ = some (.int .i64 (rpl l i : Int))
theorem RwL.below {w w' : World} {a : Option Addr} {l : List UInt8} {k : Nat} (h : RwL w a l k) (hb : Below w.heap.size w w') : RwL w' a l k := by
  rcases h with h | ⟨b, h1, h2, h3⟩
  · exact Or.inl h
  · refine Or.inr ⟨b, h1, Nat.lt_of_lt_of_le h2 hb.size, fun i hi => ?_⟩
    obtain ⟨x, y, z⟩ := h3 i hi
    exact ⟨by rw [hb.cell (p := ⟨b, _, none⟩) h2]; exact x, by rw [hb.cell (p := ⟨b, _, none⟩) h2]; exact y, by rw [hb.cell (p := ⟨b, _, none⟩) h2]; exact z⟩
def ixV : Option Nat → Int
  | some i => (i : Int)
  | none => -1
/- the first row of which a function says yes -/
theorem index_w (a : Option Addr) (l : List UInt8) (k c : Nat) (w : World) (hk : k ≤ 65535) (hL : RwL w a l k) :
    Calls Try.prog 29 #[.slice a k c, .func (.func 30) #[] #[]] w fun en w' => en = .returned (.int .i64 (ixV (fstI (fun i => wiR (rp l i) (re l i)) k))) ∧ Below w.heap.size w w' := by
  have hk' : (k : Int) ≤ 65535 := by omega
  have HL := hide hL
  have HP := hide widr_any
  clear hL hk
  go_enter Try.func29, Try.ntmps29
  go_wp2_with fail
  go_loopw [8] (fun vi wr => ∃ (j : Nat), vi = .int .i64 j ∧ Hid (j ≤ k ∧ (∀ i, i < j → wiR (rp l i) (re l i) = false) ∧ Below w.heap.size w wr)) (fun vi _ => k - (intOf vi).toNat)
  case atStart => exact ⟨0, rfl, hide ⟨by omega, fun i hi => by omega, Below.refl _ _⟩⟩
  case round =>
    obtain ⟨j, rfl, HV⟩ := hrel
    obtain ⟨hj, hno, hb⟩ := HV.out
    have hj0 : (0 : Int) ≤ (j : Int) := by omega
    have HNO := hide hno
    have HB := hide hb
    clear HV hno
    by_cases hlt : j < k
    case neg =>
      have hlt' : ¬ (j : Int) < (k : Int) := by omega
      have E := hide (fstI_none (p := fun i => wiR (rp l i) (re l i)) (k := k) fun i hi => HNO.out i (by omega))
      go_wp2_with fail
      go_ret
      exact ⟨by rw [E.out]; rfl, HB.out⟩
    have hlt' : (j : Int) < (k : Int) := by omega
    rcases HL.out.below hb with hz | ⟨b, rfl, hbl, hcell⟩
    · omega
    obtain ⟨z0, z1, z2⟩ := hcell j hlt
    have C := hide (HP.out (rp l j) (re l j) (rpl l j))
    have E1 := hide (fun h => fstI_some (p := fun i => wiR (rp l i) (re l i)) (k := k) hlt h HNO.out)
    have E2 : Hid (wiR (rp l j) (re l j) = false → ∀ i, i < j + 1 → wiR (rp l i) (re l i) = false) := hide (fun h i hi => by
      rcases Nat.lt_or_ge i j with h' | h'
      · exact HNO.out i h'
      · obtain rfl : i = j := by omega
        exact h)
    generalize wiR (rp l j) (re l j) = R at C E1 E2
    generalize ((rp l j : Nat) : Int) = X at *
    generalize ((re l j : Nat) : Int) = Y at *
    generalize ((rpl l j : Nat) : Int) = Z at *
    cases R
    · clear E1
      have E := hide (E2.out rfl)
      clear E2 hcell hb
      go_wp2_with fail
      refine (C.out _).mono ?_
      rintro e w1 ⟨rfl, h1⟩
      have HB1 := hide (HB.out.trans (h1.mono HB.out.size))
      clear h1
      go_wp2_with fail
      go_roundw
      case rel => exact ⟨j + 1, by go_num, hide ⟨by omega, E.out, HB1.out⟩⟩
      case measure => simp [intOf]; omega
    · clear E2
      have E := hide (E1.out rfl)
      clear E1 hcell hb
      go_wp2_with fail
      refine (C.out _).mono ?_
      rintro e w1 ⟨rfl, h1⟩
      have HB1 := hide (HB.out.trans (h1.mono HB.out.size))
      clear h1
      go_wp2_with fail
      go_ret
      exact ⟨by rw [E.out]; rfl, HB1.out⟩
/- the first row of which a function says yes -/
theorem index_n (a : Option Addr) (l : List UInt8) (k c : Nat) (w : World) (hk : k ≤ 65535) (hL : RwL w a l k) :
    Calls Try.prog 29 #[.slice a k c, .func (.func 33) #[] #[]] w fun en w' => en = .returned (.int .i64 (ixV (fstI (fun i => naR (rp l i) (re l i)) k))) ∧ Below w.heap.size w w' := by
  have hk' : (k : Int) ≤ 65535 := by omega
  have HL := hide hL
  have HP := hide narr_any
  clear hL hk
  go_enter Try.func29, Try.ntmps29
  go_wp2_with fail
  go_loopw [8] (fun vi wr => ∃ (j : Nat), vi = .int .i64 j ∧ Hid (j ≤ k ∧ (∀ i, i < j → naR (rp l i) (re l i) = false) ∧ Below w.heap.size w wr)) (fun vi _ => k - (intOf vi).toNat)
  case atStart => exact ⟨0, rfl, hide ⟨by omega, fun i hi => by omega, Below.refl _ _⟩⟩
  case round =>
    obtain ⟨j, rfl, HV⟩ := hrel
    obtain ⟨hj, hno, hb⟩ := HV.out
    have hj0 : (0 : Int) ≤ (j : Int) := by omega
    have HNO := hide hno
    have HB := hide hb
    clear HV hno
    by_cases hlt : j < k
    case neg =>
      have hlt' : ¬ (j : Int) < (k : Int) := by omega
      have E := hide (fstI_none (p := fun i => naR (rp l i) (re l i)) (k := k) fun i hi => HNO.out i (by omega))
      go_wp2_with fail
      go_ret
      exact ⟨by rw [E.out]; rfl, HB.out⟩
    have hlt' : (j : Int) < (k : Int) := by omega
    rcases HL.out.below hb with hz | ⟨b, rfl, hbl, hcell⟩
    · omega
    obtain ⟨z0, z1, z2⟩ := hcell j hlt
    have C := hide (HP.out (rp l j) (re l j) (rpl l j))
    have E1 := hide (fun h => fstI_some (p := fun i => naR (rp l i) (re l i)) (k := k) hlt h HNO.out)
    have E2 : Hid (naR (rp l j) (re l j) = false → ∀ i, i < j + 1 → naR (rp l i) (re l i) = false) := hide (fun h i hi => by
      rcases Nat.lt_or_ge i j with h' | h'
      · exact HNO.out i h'
      · obtain rfl : i = j := by omega
        exact h)
    generalize naR (rp l j) (re l j) = R at C E1 E2
    generalize ((rp l j : Nat) : Int) = X at *
    generalize ((re l j : Nat) : Int) = Y at *
    generalize ((rpl l j : Nat) : Int) = Z at *
    cases R
    · clear E1
      have E := hide (E2.out rfl)
      clear E2 hcell hb
      go_wp2_with fail
      refine (C.out _).mono ?_
      rintro e w1 ⟨rfl, h1⟩
      have HB1 := hide (HB.out.trans (h1.mono HB.out.size))
      clear h1
      go_wp2_with fail
      go_roundw
      case rel => exact ⟨j + 1, by go_num, hide ⟨by omega, E.out, HB1.out⟩⟩
      case measure => simp [intOf]; omega
    · clear E2
      have E := hide (E1.out rfl)
      clear E1 hcell hb
      go_wp2_with fail
      refine (C.out _).mono ?_
      rintro e w1 ⟨rfl, h1⟩
      have HB1 := hide (HB.out.trans (h1.mono HB.out.size))
      clear h1
      go_wp2_with fail
      go_ret
      exact ⟨by rw [E.out]; rfl, HB1.out⟩
theorem from_any (s : ByteArray) (k : Nat) (w : World) (hs : s.size ≤ 1073741824) (hk : k ≤ 4294967295) :
    Calls Try.prog 32 #[.string s, .int .i64 (k : Int)] w fun e w' => e = .returned (.string (s.extract (min k s.size) s.size)) ∧ w' = w := by
  have hs' : (s.size : Int) ≤ 1073741824 := by omega
  have hs0 : (0 : Int) ≤ (s.size : Int) := by omega
  have hk0 : (0 : Int) ≤ (k : Int) := by omega
  by_cases h : k ≤ s.size
  · rw [Nat.min_eq_left h]
    have h1 : (k : Int) ≤ (s.size : Int) := by omega
    have h2 : min (k : Int) (s.size : Int) = (k : Int) := by omega
    go_enter Try.func32, Try.ntmps32
    go_wp2_with fail
    go_ret
    exact ⟨by simp, rfl⟩
  · rw [Nat.min_eq_right (by omega)]
    have h1 : (s.size : Int) ≤ (k : Int) := by omega
    have h2 : min (k : Int) (s.size : Int) = (s.size : Int) := by omega
    go_enter Try.func32, Try.ntmps32
    go_wp2_with fail
    go_ret
    exact ⟨by simp, rfl⟩
end Go.Proofs.Ythgpchjkeidilaa
