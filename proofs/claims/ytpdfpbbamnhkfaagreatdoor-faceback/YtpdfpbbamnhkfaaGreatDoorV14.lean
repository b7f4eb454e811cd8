/-
  Joined: C11R, C11Ro, C11Sg, C11Sw.
-/
import Derived.Test.YtpdfpbbamnhkfaaGreatDoorV10
import Derived.Test.YtpdfpbbamnhkfaaGreatDoorV13
namespace Go.Proofs.YtpdfpbbamnhkfaaGreatDoor.C11
open Go.RowKit Go.Deep
set_option linter.unusedVariables false
theorem widr_any (p e g : Nat) (w : World) : Calls Tryz.prog 204 #[.agg #[.int .i64 (p : Int), .int .i64 (e : Int), .int .i64 (g : Int)]] w fun en w' => en = .returned (.bool (wiR p e)) ∧ Below w.heap.size w w' := by
  have HB := hide ((Below.refl w.heap.size w).alloc (Nat.le_refl _) (.cells #[.int .i64 (p : Int), .int .i64 (e : Int), .int .i64 (g : Int)] 237))
  unfold wiR
  have q1 : ((p : Int) == 3) = decide (p = 3) := by rw [Bool.eq_iff_iff, beq_iff_eq, decide_eq_true_iff]; omega
  have q2 : ((e : Int) == 10) = decide (e = 10) := by rw [Bool.eq_iff_iff, beq_iff_eq, decide_eq_true_iff]; omega
  have q3 : ((p : Int) == 0) = decide (p = 0) := by rw [Bool.eq_iff_iff, beq_iff_eq, decide_eq_true_iff]; omega
  have q4 : ((e : Int) == 4) = decide (e = 4) := by rw [Bool.eq_iff_iff, beq_iff_eq, decide_eq_true_iff]; omega
  generalize decide (p = 3) = A at *
  generalize decide (e = 10) = B at *
  generalize decide (p = 0) = C at *
  generalize decide (e = 4) = D at *
  generalize (p : Int) = P at *
  generalize (e : Int) = E at *
  generalize (g : Int) = G at *
  cases A <;> cases B <;> cases C <;> cases D
  all_goals
    go_enter Tryz.func204, Tryz.ntmps204
    go_wp2_with fail
    go_ret
    exact ⟨rfl, HB.out⟩
theorem narr_any (p e g : Nat) (w : World) : Calls Tryz.prog 207 #[.agg #[.int .i64 (p : Int), .int .i64 (e : Int), .int .i64 (g : Int)]] w fun en w' => en = .returned (.bool (naR p e)) ∧ Below w.heap.size w w' := by
  have HB := hide ((Below.refl w.heap.size w).alloc (Nat.le_refl _) (.cells #[.int .i64 (p : Int), .int .i64 (e : Int), .int .i64 (g : Int)] 237))
  unfold naR
  have q1 : ((p : Int) == 3) = decide (p = 3) := by rw [Bool.eq_iff_iff, beq_iff_eq, decide_eq_true_iff]; omega
  have q2 : ((e : Int) == 1) = decide (e = 1) := by rw [Bool.eq_iff_iff, beq_iff_eq, decide_eq_true_iff]; omega
  have q3 : ((p : Int) == 0) = decide (p = 0) := by rw [Bool.eq_iff_iff, beq_iff_eq, decide_eq_true_iff]; omega
  have q4 : decide ((e : Int) ≤ 3) = decide (e ≤ 3) := by rw [Bool.eq_iff_iff, decide_eq_true_iff, decide_eq_true_iff]; omega
  generalize decide (p = 3) = A at *
  generalize decide (e = 1) = B at *
  generalize decide (p = 0) = C at *
  generalize decide (e ≤ 3) = D at *
  generalize (p : Int) = P at *
  generalize (e : Int) = E at *
  generalize (g : Int) = G at *
  cases A <;> cases B <;> cases C <;> cases D
  all_goals
    go_enter Tryz.func207, Tryz.ntmps207
    go_wp2_with fail
    go_ret
    exact ⟨rfl, HB.out⟩
def RwL (w : World) (a : Option Addr) (l : List UInt8) (k : Nat) : Prop :=
  k = 0 ∨ ∃ b, a = some ⟨b, 0, none⟩ ∧ b < w.heap.size ∧ ∀ i, i < k → w.cell? ⟨b, i * 3, none⟩ = some (.int .i64 (rp l i : Int)) ∧ w.cell? ⟨b, i * 3 + 1, none⟩ = some (.int .i64 (re l i : Int)) ∧ w.cell? ⟨b, i * 3 + 2, none⟩ = some (.int .i64 (rpl l i : Int))
theorem RwL.below {w w' : World} {a : Option Addr} {l : List UInt8} {k : Nat} (h : RwL w a l k) (hb : Below w.heap.size w w') : RwL w' a l k := by
  rcases h with h | ⟨b, h1, h2, h3⟩
  · exact Or.inl h
  · refine Or.inr ⟨b, h1, Nat.lt_of_lt_of_le h2 hb.size, fun i hi => ?_⟩
    obtain ⟨x, y, z⟩ := h3 i hi
    exact ⟨by rw [hb.cell (p := ⟨b, _, none⟩) h2]; exact x, by rw [hb.cell (p := ⟨b, _, none⟩) h2]; exact y, by rw [hb.cell (p := ⟨b, _, none⟩) h2]; exact z⟩
def ixV : Option Nat → Int
  | some i => (i : Int)
  | none => -1
theorem index_w (a : Option Addr) (l : List UInt8) (k c : Nat) (w : World) (hk : k ≤ 65535) (hL : RwL w a l k) :
    Calls Tryz.prog 203 #[.slice a k c, .func (.func 204) #[] #[]] w fun en w' => en = .returned (.int .i64 (ixV (fstI (fun i => wiR (rp l i) (re l i)) k))) ∧ Below w.heap.size w w' := by
  have hk' : (k : Int) ≤ 65535 := by omega
  have HL := hide hL
  have HP := hide widr_any
  clear hL hk
  go_enter Tryz.func203, Tryz.ntmps203
  go_wp2_with fail
  go_loopw [8] (fun vi wr => ∃ (j : Nat), vi = .int .i64 j ∧ Hid (j ≤ k ∧ (∀ i, i < j → wiR (rp l i) (re l i) = false) ∧ Below w.heap.size w wr)) (fun vi _ => k - (intOf vi).toNat)
  case atStart => exact ⟨0, rfl, hide ⟨by omega, fun i hi => by omega, Below.refl _ _⟩⟩
  case round =>
    obtain ⟨j, rfl, HV⟩ := hrel
    obtain ⟨hj, hno, hb⟩ := HV.out
    have hj0 : (0 : Int) ≤ (j : Int) := by omega
    have HNO := hide hno
    have HB := hide hb
    clear HV hno
    by_cases hlt : j < k
    case neg =>
      have hlt' : ¬ (j : Int) < (k : Int) := by omega
      have E := hide (fstI_none (p := fun i => wiR (rp l i) (re l i)) (k := k) fun i hi => HNO.out i (by omega))
      go_wp2_with fail
      go_ret
      exact ⟨by rw [E.out]; rfl, HB.out⟩
    have hlt' : (j : Int) < (k : Int) := by omega
    rcases HL.out.below hb with hz | ⟨b, rfl, hbl, hcell⟩
    · omega
    obtain ⟨z0, z1, z2⟩ := hcell j hlt
    have C := hide (HP.out (rp l j) (re l j) (rpl l j))
    have E1 := hide (fun h => fstI_some (p := fun i => wiR (rp l i) (re l i)) (k := k) hlt h HNO.out)
    have E2 : Hid (wiR (rp l j) (re l j) = false → ∀ i, i < j + 1 → wiR (rp l i) (re l i) = false) := hide (fun h i hi => by
      rcases Nat.lt_or_ge i j with h' | h'
      · exact HNO.out i h'
      · obtain rfl : i = j := by omega
        exact h)
    generalize wiR (rp l j) (re l j) = R at C E1 E2
    generalize ((rp l j : Nat) : Int) = X at *
    generalize ((re l j : Nat) : Int) = Y at *
    generalize ((rpl l j : Nat) : Int) = Z at *
    cases R
    · clear E1
      have E := hide (E2.out rfl)
      clear E2 hcell hb
      go_wp2_with fail
      refine (C.out _).mono ?_
      rintro e w1 ⟨rfl, h1⟩
      have HB1 := hide (HB.out.trans (h1.mono HB.out.size))
      clear h1
      go_wp2_with fail
      go_roundw
      case rel => exact ⟨j + 1, by go_num, hide ⟨by omega, E.out, HB1.out⟩⟩
      case measure => simp [intOf]; omega
    · clear E2
      have E := hide (E1.out rfl)
      clear E1 hcell hb
      go_wp2_with fail
      refine (C.out _).mono ?_
      rintro e w1 ⟨rfl, h1⟩
      have HB1 := hide (HB.out.trans (h1.mono HB.out.size))
      clear h1
      go_wp2_with fail
      go_ret
      exact ⟨by rw [E.out]; rfl, HB1.out⟩
theorem index_n (a : Option Addr) (l : List UInt8) (k c : Nat) (w : World) (hk : k ≤ 65535) (hL : RwL w a l k) :
    Calls Tryz.prog 203 #[.slice a k c, .func (.func 207) #[] #[]] w fun en w' => en = .returned (.int .i64 (ixV (fstI (fun i => naR (rp l i) (re l i)) k))) ∧ Below w.heap.size w w' := by
  have hk' : (k : Int) ≤ 65535 := by omega
  have HL := hide hL
  have HP := hide narr_any
  clear hL hk
  go_enter Tryz.func203, Tryz.ntmps203
  go_wp2_with fail
  go_loopw [8] (fun vi wr => ∃ (j : Nat), vi = .int .i64 j ∧ Hid (j ≤ k ∧ (∀ i, i < j → naR (rp l i) (re l i) = false) ∧ Below w.heap.size w wr)) (fun vi _ => k - (intOf vi).toNat)
  case atStart => exact ⟨0, rfl, hide ⟨by omega, fun i hi => by omega, Below.refl _ _⟩⟩
  case round =>
    obtain ⟨j, rfl, HV⟩ := hrel
    obtain ⟨hj, hno, hb⟩ := HV.out
    have hj0 : (0 : Int) ≤ (j : Int) := by omega
    have HNO := hide hno
    have HB := hide hb
    clear HV hno
    by_cases hlt : j < k
    case neg =>
      have hlt' : ¬ (j : Int) < (k : Int) := by omega
      have E := hide (fstI_none (p := fun i => naR (rp l i) (re l i)) (k := k) fun i hi => HNO.out i (by omega))
      go_wp2_with fail
      go_ret
      exact ⟨by rw [E.out]; rfl, HB.out⟩
    have hlt' : (j : Int) < (k : Int) := by omega
    rcases HL.out.below hb with hz | ⟨b, rfl, hbl, hcell⟩
    · omega
    obtain ⟨z0, z1, z2⟩ := hcell j hlt
    have C := hide (HP.out (rp l j) (re l j) (rpl l j))
    have E1 := hide (fun h => fstI_some (p := fun i => naR (rp l i) (re l i)) (k := k) hlt h HNO.out)
    have E2 : Hid (naR (rp l j) (re l j) = false → ∀ i, i < j + 1 → naR (rp l i) (re l i) = false) := hide (fun h i hi => by
      rcases Nat.lt_or_ge i j with h' | h'
      · exact HNO.out i h'
      · obtain rfl : i = j := by omega
        exact h)
    generalize naR (rp l j) (re l j) = R at C E1 E2
    generalize ((rp l j : Nat) : Int) = X at *
    generalize ((re l j : Nat) : Int) = Y at *
    generalize ((rpl l j : Nat) : Int) = Z at *
    cases R
    · clear E1
      have E := hide (E2.out rfl)
      clear E2 hcell hb
      go_wp2_with fail
      refine (C.out _).mono ?_
      rintro e w1 ⟨rfl, h1⟩
      have HB1 := hide (HB.out.trans (h1.mono HB.out.size))
      clear h1
      go_wp2_with fail
      go_roundw
      case rel => exact ⟨j + 1, by go_num, hide ⟨by omega, E.out, HB1.out⟩⟩
      case measure => simp [intOf]; omega
    · clear E2
      have E := hide (E1.out rfl)
      clear E1 hcell hb
      go_wp2_with fail
      refine (C.out _).mono ?_
      rintro e w1 ⟨rfl, h1⟩
      have HB1 := hide (HB.out.trans (h1.mono HB.out.size))
      clear h1
      go_wp2_with fail
      go_ret
      exact ⟨by rw [E.out]; rfl, HB1.out⟩
theorem from_any (s : ByteArray) (k : Nat) (w : World) (hs : s.size ≤ 1073741824) (hk : k ≤ 4294967295) :
    Calls Tryz.prog 206 #[.string s, .int .i64 (k : Int)] w fun e w' => e = .returned (.string (s.extract (min k s.size) s.size)) ∧ w' = w := by
  have hs' : (s.size : Int) ≤ 1073741824 := by omega
  have hs0 : (0 : Int) ≤ (s.size : Int) := by omega
  have hk0 : (0 : Int) ≤ (k : Int) := by omega
  by_cases h : k ≤ s.size
  · rw [Nat.min_eq_left h]
    have h1 : (k : Int) ≤ (s.size : Int) := by omega
    have h2 : min (k : Int) (s.size : Int) = (k : Int) := by omega
    go_enter Tryz.func206, Tryz.ntmps206
    go_wp2_with fail
    go_ret
    exact ⟨by simp, rfl⟩
  · rw [Nat.min_eq_right (by omega)]
    have h1 : (s.size : Int) ≤ (k : Int) := by omega
    have h2 : min (k : Int) (s.size : Int) = (s.size : Int) := by omega
    go_enter Tryz.func206, Tryz.ntmps206
    go_wp2_with fail
    go_ret
    exact ⟨by simp, rfl⟩
end Go.Proofs.YtpdfpbbamnhkfaaGreatDoor.C11
namespace Go.Proofs.YtpdfpbbamnhkfaaGreatDoor.C11
open Go.RowKit Go.Deep
set_option linter.unusedVariables false
def arr (f : Nat → Int) (n k : Nat) : Array Value := ((List.range n).map fun i => Value.int .i64 (if i < k then f i else 0)).toArray
theorem arr_size (f : Nat → Int) (n k : Nat) : (arr f n k).size = n := by simp [arr]
theorem arr_at (f : Nat → Int) (n k j : Nat) (h : j < n) : (arr f n k)[j]? = some (.int .i64 (if j < k then f j else 0)) := by
  simp [arr, h]
theorem arr_set (f : Nat → Int) (n k : Nat) (h : k < n) : (arr f n k).setIfInBounds k (.int .i64 (f k)) = arr f n (k + 1) := by
  apply Array.ext_getElem?
  intro j
  rw [Array.getElem?_setIfInBounds]
  by_cases hj : j < n
  · rw [arr_at _ _ _ _ hj, arr_at _ _ _ _ hj]
    by_cases e : k = j
    · subst e; simp [arr_size, hj]
    · rw [if_neg e]
      by_cases h1 : j < k
      · rw [if_pos h1, if_pos (by omega)]
      · rw [if_neg h1, if_neg (by omega)]
  · rw [if_neg (by rintro rfl; exact hj h)]
    rw [Array.getElem?_eq_none (by rw [arr_size]; omega), Array.getElem?_eq_none (by rw [arr_size]; omega)]
theorem arr_zero (f : Nat → Int) (n : Nat) : arr f n 0 = Array.replicate n (.int .i64 0) := by
  apply Array.ext_getElem?
  intro j
  by_cases hj : j < n
  · rw [arr_at _ _ _ _ hj]; simp [hj]
  · rw [Array.getElem?_eq_none (by rw [arr_size]; omega), Array.getElem?_eq_none (by simp; omega)]
theorem info_row : (Tryz.prog.info? 237).map (fun i => (i.zero, i.size, i.bytes)) = some (some (.agg #[.int .i64 0, .int .i64 0, .int .i64 0]), 3, 24) := by kernel_rfl
theorem make_rows (n : Nat) (hn : n ≤ 100000) (x : World) : (Instr.makeSlice 233 (.int .i64 (n : Int)) (.int .i64 (n : Int))).run Tryz.prog x = .ok (.slice (some ⟨x.heap.size, 0, none⟩) n n) (x.alloc (.cells (Array.replicate (n * 3) (.int .i64 0)) 237)) := by
  obtain ⟨i0, hi, hz0, hz1, hz2⟩ := info_parts5 info_row
  have h := run_make (P := Tryz.prog) x 233 237 i0 (.agg #[.int .i64 0, .int .i64 0, .int .i64 0]) Tryz.underlying233 hi hz0 .i64 .i64 n n (by omega) (Int.le_refl _) (by rw [hz2]; omega) (by omega)
  rw [hz1] at h
  simp only [Int.toNat_natCast] at h
  have e : madeCells (Value.agg #[.int .i64 0, .int .i64 0, .int .i64 0]).cells (n * 3) = Array.replicate (n * 3) (.int .i64 0) := by
    apply Array.ext (by simp [madeCells])
    intro j h1 h2
    have hm : j % 3 < 3 := Nat.mod_lt _ (by omega)
    simp [madeCells, Value.cells]
    generalize j % 3 = q at hm
    match q, hm with
    | 0, _ => rfl
    | 1, _ => rfl
    | 2, _ => rfl
  rw [e] at h
  exact h
def rwF (l : List UInt8) (j : Nat) : Int := if j % 3 = 0 then (rp l (j / 3) : Int) else if j % 3 = 1 then (re l (j / 3) : Int) else (rpl l (j / 3) : Int)
theorem rwF0 (l : List UInt8) (i : Nat) : rwF l (i * 3) = (rp l i : Int) := by unfold rwF; rw [if_pos (by omega), show i * 3 / 3 = i by omega]
theorem rwF1 (l : List UInt8) (i : Nat) : rwF l (i * 3 + 1) = (re l i : Int) := by unfold rwF; rw [if_neg (by omega), if_pos (by omega), show (i * 3 + 1) / 3 = i by omega]
theorem rwF2 (l : List UInt8) (i : Nat) : rwF l (i * 3 + 2) = (rpl l i : Int) := by unfold rwF; rw [if_neg (by omega), if_neg (by omega), show (i * 3 + 2) / 3 = i by omega]
theorem rw_step {w : World} {b k i : Nat} {l : List UInt8} (h : Blk w b (arr (rwF l) (k * 3) (i * 3)) 237) (hi : i < k) :
    Blk (((w.setCell ⟨b, i * 3, none⟩ (.int .i64 (rp l i : Int))).setCell ⟨b, i * 3 + 1, none⟩ (.int .i64 (re l i : Int))).setCell ⟨b, i * 3 + 2, none⟩ (.int .i64 (rpl l i : Int))) b (arr (rwF l) (k * 3) ((i + 1) * 3)) 237 := by
  have h1 := Blk.set h (i * 3) (.int .i64 (rp l i : Int))
  rw [← rwF0, arr_set _ _ _ (by omega)] at h1
  have h2 := Blk.set h1 (i * 3 + 1) (.int .i64 (re l i : Int))
  rw [← rwF1, arr_set _ _ _ (by omega)] at h2
  have h3 := Blk.set h2 (i * 3 + 2) (.int .i64 (rpl l i : Int))
  rw [← rwF2, show i * 3 + 2 = i * 3 + 1 + 1 from rfl, arr_set _ _ _ (by omega), show i * 3 + 1 + 1 + 1 = (i + 1) * 3 by omega] at h3
  rw [← rwF0, ← rwF1, ← rwF2]
  exact h3
theorem rw_cells {w : World} {b k i : Nat} {l : List UInt8} (h : Blk w b (arr (rwF l) (k * 3) (i * 3)) 237) (hi : i < k) :
    w.cell? ⟨b, i * 3, none⟩ = some (.int .i64 0) ∧ w.cell? ⟨b, i * 3 + 1, none⟩ = some (.int .i64 0) ∧ w.cell? ⟨b, i * 3 + 2, none⟩ = some (.int .i64 0) := by
  refine ⟨?_, ?_, ?_⟩
  · rw [h.cell, arr_at _ _ _ _ (by omega), if_neg (by omega)]
  · rw [h.cell, arr_at _ _ _ _ (by omega), if_neg (by omega)]
  · rw [h.cell, arr_at _ _ _ _ (by omega), if_neg (by omega)]
theorem rw_all {w : World} {b k : Nat} {l : List UInt8} (h : Blk w b (arr (rwF l) (k * 3) (k * 3)) 237) : RwL w (some ⟨b, 0, none⟩) l k := by
  refine Or.inr ⟨b, rfl, h.lt, fun i hi => ⟨?_, ?_, ?_⟩⟩
  · rw [h.cell, arr_at _ _ _ _ (by omega), if_pos (by omega), rwF0]
  · rw [h.cell, arr_at _ _ _ _ (by omega), if_pos (by omega), rwF1]
  · rw [h.cell, arr_at _ _ _ _ (by omega), if_pos (by omega), rwF2]
def RoR (w : World) (l : List UInt8) (K : Nat) (e : Ending) (w' : World) : Prop := ∃ a c, e = .returned (.slice a K c) ∧ RwL w' a l K ∧ Below w.heap.size w w'
def kR (l : List UInt8) : Nat := if rowB l then n2 l 2 else 0
set_option maxRecDepth 8000 in
set_option maxHeartbeats 2000000 in
theorem rows_any (t : ByteArray) (w : World) (hs : t.size ≤ 1073741824) :
    Calls Tryz.prog 202 #[.string t] w (RoR w t.data.toList (kR t.data.toList)) := by
  have hs' : (t.size : Int) ≤ 1073741824 := by omega
  have HN := hide (show rowB t.data.toList = false → kR t.data.toList = 0 from fun h => by unfold kR; rw [h]; rfl)
  have HY := hide (show rowB t.data.toList = true → kR t.data.toList = n2 t.data.toList 2 from fun h => by unfold kR; rw [h]; rfl)
  have hT := @rowB_t t.data.toList
  rw [← Lib.size_eq] at hT
  have HT := hide hT
  have HF : Hid (¬ (4 ≤ t.size ∧ t.data.toList.take 2 = [0, 0] ∧ 4 + 8 * n2 t.data.toList 2 ≤ t.size) → kR t.data.toList = 0) := hide (fun h => HN.out (by cases e : rowB t.data.toList; rfl; exact absurd (HT.out.1 e) h))
  clear hT
  generalize kR t.data.toList = KR at *
  by_cases h1 : t.size < 4
  · have h1' : (t.size : Int) < 4 := by omega
    obtain rfl := HF.out (by omega)
    go_enter Tryz.func202, Tryz.ntmps202
    go_wp2_with fail
    go_ret
    exact ⟨none, 0, rfl, Or.inl rfl, Below.refl _ _⟩
  have h1' : ¬ (t.size : Int) < 4 := by omega
  have h1b : (2 : Int) ≤ (t.size : Int) := by omega
  have hq := head_eq t 2 [0, 0]
  by_cases h2 : t.data.toList.take 2 = [0, 0]
  case neg =>
    obtain rfl := HF.out (fun h => h2 h.2.1)
    rw [decide_eq_false h2] at hq
    clear h2
    go_enter Tryz.func202, Tryz.ntmps202
    go_wp2_with fail
    go_ret
    exact ⟨none, 0, rfl, Or.inl rfl, Below.refl _ _⟩
  rw [decide_eq_true h2] at hq
  have C2 := hide (fun w => two_any t 2 2 w rfl (by omega) hs)
  have bk := n2_lt t.data.toList 2
  by_cases h3 : 4 + 8 * n2 t.data.toList 2 ≤ t.size
  case neg =>
    obtain rfl := HF.out (fun h => h3 h.2.2)
    clear HF HN HY HT h2
    generalize n2 t.data.toList 2 = K at *
    have h3' : (t.size : Int) < 4 + 8 * (K : Int) := by omega
    have k0 : (0 : Int) ≤ (K : Int) := by omega
    have k1 : (K : Int) ≤ 65535 := by omega
    go_enter Tryz.func202, Tryz.ntmps202
    go_wp2_with fail
    refine (C2.out _).mono ?_
    rintro e w1 ⟨rfl, m, hw⟩
    subst hw
    go_wp2_with fail
    go_ret
    exact ⟨none, 0, rfl, Or.inl rfl, below_drewN (Below.refl _ _) _⟩
  obtain rfl := HY.out (HT.out.2 ⟨by omega, h2, h3⟩)
  have CT := hide (fun (j : Nat) (z : Int) (w : World) (hz : z = (j : Int)) (h : j + 2 ≤ t.size) => two_any t j z w hz h hs)
  have CF := hide (fun (j : Nat) (z : Int) (w : World) (hz : z = (j : Int)) (h : j + 4 ≤ t.size) => four_any t j z w hz h hs)
  clear HF HN HY HT h2
  have H3 := hide h3
  generalize n2 t.data.toList 2 = K at *
  have h3' : ¬ (t.size : Int) < 4 + 8 * (K : Int) := by omega
  have k0 : (0 : Int) ≤ (K : Int) := by omega
  have k1 : (K : Int) ≤ 65535 := by omega
  have HMK := make_rows K (by omega)
  rw [← arr_zero (rwF t.data.toList)] at HMK
  clear h3
  go_enter Tryz.func202, Tryz.ntmps202
  go_wp2_with fail
  refine (C2.out _).mono ?_
  rintro e w1 ⟨rfl, m, hw⟩
  subst hw
  have HBW := hide (show Below w.heap.size w ((w.drewN m).alloc (.cells (arr (rwF t.data.toList) (K * 3) 0) 237)) from (below_drewN (Below.refl _ _) m).alloc (Nat.le_refl _) _)
  have HBL := hide (show Blk ((w.drewN m).alloc (.cells (arr (rwF t.data.toList) (K * 3) 0) 237)) w.heap.size (arr (rwF t.data.toList) (K * 3) (0 * 3)) 237 from Blk.new _ _ _)
  go_wp2_with fail
  go_loopw [27] (fun vi wr => ∃ (i : Nat), vi = .int .i64 i ∧ Hid (i ≤ K ∧ Blk wr w.heap.size (arr (rwF t.data.toList) (K * 3) (i * 3)) 237 ∧ Below w.heap.size w wr)) (fun vi _ => K - (intOf vi).toNat)
  case atStart => exact ⟨0, rfl, hide ⟨by omega, HBL.out, HBW.out⟩⟩
  case round =>
    obtain ⟨i, rfl, HV⟩ := hrel
    obtain ⟨hi, hbl, hbw⟩ := HV.out
    have hi0 : (0 : Int) ≤ (i : Int) := by omega
    have HB1 := hide hbl
    have HB2 := hide hbw
    clear HV hbw HBL HBW
    by_cases hlt : i < K
    case neg =>
      have hlt' : ¬ (i : Int) < (K : Int) := by omega
      obtain rfl : i = K := by omega
      clear hbl
      go_wp2_with fail
      go_ret
      exact ⟨_, _, rfl, rw_all HB1.out, HB2.out⟩
    have hlt' : (i : Int) < (K : Int) := by omega
    obtain ⟨z0, z1, z2⟩ := rw_cells hbl hlt
    have f0 := hbl.frozen (i * 3)
    have f1 := hbl.frozen (i * 3 + 1)
    have f2 := hbl.frozen (i * 3 + 2)
    have zl := hbl.lt
    have C1 := hide (fun z w (hz : z = ((4 + 8 * i : Nat) : Int)) => CT.out (4 + 8 * i) z w hz (by have := H3.out; omega))
    have C3 := hide (fun z w (hz : z = ((6 + 8 * i : Nat) : Int)) => CT.out (6 + 8 * i) z w hz (by have := H3.out; omega))
    have C4 := hide (fun z w (hz : z = ((8 + 8 * i : Nat) : Int)) => CF.out (8 + 8 * i) z w hz (by have := H3.out; omega))
    have HST := hide (fun m => rw_step (HB1.out.drewN m) hlt)
    have e1 : n2 t.data.toList (4 + 8 * i) = rp t.data.toList i := rfl
    have e2 : n2 t.data.toList (6 + 8 * i) = re t.data.toList i := rfl
    have e3 : n4 t.data.toList (8 + 8 * i) = rpl t.data.toList i := rfl
    rw [e1] at C1
    rw [e2] at C3
    rw [e3] at C4
    generalize ((rp t.data.toList i : Nat) : Int) = X at *
    generalize ((re t.data.toList i : Nat) : Int) = Y at *
    generalize ((rpl t.data.toList i : Nat) : Int) = Z at *
    clear hbl e1 e2 e3
    go_wp2_with fail
    refine (C1.out _ _ (by omega)).mono ?_
    rintro e w1 ⟨rfl, m1, hw⟩
    subst hw
    go_wp2_with fail
    refine (C3.out _ _ (by omega)).mono ?_
    rintro e w1 ⟨rfl, m2, hw⟩
    subst hw
    go_wp2_with fail
    refine (C4.out _ _ (by omega)).mono ?_
    rintro e w1 ⟨rfl, m3, hw⟩
    subst hw
    go_wp2_with fail
    go_roundw
    case rel => exact ⟨i + 1, by go_num, hide ⟨by omega, HST.out _, ((((below_drewN HB2.out _).setCell (p := ⟨w.heap.size, i * 3, none⟩) (Nat.le_refl _) _).setCell (p := ⟨w.heap.size, i * 3 + 1, none⟩) (Nat.le_refl _) _).setCell (p := ⟨w.heap.size, i * 3 + 2, none⟩) (Nat.le_refl _) _)⟩⟩
    case measure => simp [intOf]; omega
theorem groups_any (L : Nat) (s : ByteArray) (n : Nat) (w : World) (hs : s.size ≤ 1073741824) (hn : n ≤ 4096) (hS : TkS w L []) :
    Calls Tryz.prog 205 #[.string s, .int .i64 (n : Int), .func (.func 167) #[] #[.pointer (some ⟨L, 0, none⟩)]] w (TkR w L (twV s.data.toList n)) := by
  cases h : twB s.data.toList
  · rw [twV_head h]
    exact (groups_bad L s n w hs h).mono fun e w' ⟨h1, m, h2⟩ => ⟨h1, by rw [h2]; exact (TF.refl _ _).drewN _⟩
  · exact groups_ok L s n w hs h hn hS
theorem ext_drop (s : ByteArray) (k : Nat) : (s.extract (min k s.size) s.size).data.toList = s.data.toList.drop k := by
  rw [Lib.extract_data]
  by_cases h : k ≤ s.size
  · rw [Nat.min_eq_left h, List.take_of_length_le (by rw [List.length_drop, ← Lib.size_eq]; omega)]
  · rw [Nat.min_eq_right (by omega), List.drop_eq_nil_of_le (by rw [← Lib.size_eq]; omega), List.drop_eq_nil_of_le (by rw [← Lib.size_eq]; omega)]
    simp
theorem ext_le (s : ByteArray) (k : Nat) : (s.extract (min k s.size) s.size).size ≤ s.size := by rw [ByteArray.size_extract]; omega
theorem kR_t {l : List UInt8} (h : rowB l = true) : kR l = n2 l 2 := by unfold kR; rw [h]; rfl
set_option maxHeartbeats 1000000 in
theorem walk_wide (L : Nat) (t : ByteArray) (n i : Nat) (w : World) (hs : t.size ≤ 1073741824) (hn : n ≤ 4096) (hS : TkS w L []) (hr : rowB t.data.toList = true) (hw : wiI t.data.toList = some i) :
    Calls Tryz.prog 168 #[.string t, .int .i64 (n : Int), .func (.func 167) #[] #[.pointer (some ⟨L, 0, none⟩)]] w (TkR w L (redV t.data.toList n)) := by
  have hv : redV t.data.toList n = twV (t.data.toList.drop (rpl t.data.toList i)) n := by unfold redV redW; rw [hr, hw]; rfl
  rw [hv]
  have CR := hide (rows_any t w hs)
  rw [kR_t hr] at CR
  have hbk := n2_lt t.data.toList 2
  have CI := hide (fun a c w (h : RwL w a t.data.toList (n2 t.data.toList 2)) => index_w a t.data.toList (n2 t.data.toList 2) c w (by omega) h)
  have hw' : fstI (fun j => wiR (rp t.data.toList j) (re t.data.toList j)) (n2 t.data.toList 2) = some i := hw
  rw [hw'] at CI
  have hi := (fstI_get hw').1
  have bp := n4_lt t.data.toList (8 + 8 * i)
  have hpl : rpl t.data.toList i = n4 t.data.toList (8 + 8 * i) := rfl
  have CF := hide (fun w => from_any t (rpl t.data.toList i) w hs (by omega))
  have CG := hide (fun w (h : TkS w L []) => groups_any L (t.extract (min (rpl t.data.toList i) t.size) t.size) n w (Nat.le_trans (ext_le t _) hs) hn h)
  rw [ext_drop] at CG
  have HS := hide hS
  have hn' : (n : Int) ≤ 4096 := by omega
  generalize twV (t.data.toList.drop (rpl t.data.toList i)) n = RR at *
  generalize t.extract (min (rpl t.data.toList i) t.size) t.size = SX at *
  obtain ⟨K, hK⟩ : ∃ K, n2 t.data.toList 2 = K := ⟨_, rfl⟩
  rw [hK] at CR CI hi hbk
  have k1 : (i : Int) < (K : Int) := by omega
  have k0 : (0 : Int) ≤ (i : Int) := by omega
  have kb : (K : Int) ≤ 65535 := by omega
  have HI := hide hi
  clear hS hr hw hv hw' bp hpl hK hbk
  go_enter Tryz.func168, Tryz.ntmps168
  go_wp2_with fail
  refine CR.out.mono ?_
  rintro e w1 ⟨a, c, rfl, hr1, hb1⟩
  have HR1 := hide hr1
  have HB1 := hide hb1
  clear hr1 hb1
  go_wp2_with fail
  refine (CI.out _ _ _ HR1.out).mono ?_
  rintro e w2 ⟨rfl, hb2⟩
  have HB2 := hide (HB1.out.trans (hb2.mono HB1.out.size))
  rcases HR1.out.below hb2 with hz | ⟨b, rfl, hbl, hcell⟩
  · have := HI.out; omega
  obtain ⟨_, _, z2⟩ := hcell i HI.out
  have HS2 := hide (HS.out.below HB2.out)
  have HF2 := hide (TF.of_below HB2.out (Nat.le_of_lt HS.out.lt))
  generalize ((rpl t.data.toList i : Nat) : Int) = PL at *
  have hix : ixV (some i) = (i : Int) := rfl
  rw [hix]
  clear hcell hb2 HR1 hi
  go_wp2_with fail
  refine (CF.out _).mono ?_
  rintro e w3 ⟨rfl, hw3⟩
  subst hw3
  go_wp2_with fail
  cases RR with
  | none =>
    refine (CG.out _ HS2.out).mono ?_
    rintro e w4 ⟨rfl, ht⟩
    have HT := hide (HF2.out.trans ht)
    clear ht
    go_wp2_with fail
    go_ret
    exact ⟨rfl, HT.out⟩
  | some cs =>
    refine (CG.out _ HS2.out).mono ?_
    rintro e w4 ⟨rfl, hk, ht⟩
    have HK := hide hk
    have HT := hide (HF2.out.trans ht)
    clear ht hk
    go_wp2_with fail
    go_ret
    exact ⟨rfl, HK.out, HT.out⟩
def RdR (w : World) (R : Option (List Ch)) (e : Ending) (w' : World) : Prop := match R with
  | some cs => ∃ v, e = .returned (.tuple #[v, .int .i64 0]) ∧ CRow w' (w.heap.size + 1) v cs ∧ Below w.heap.size w w'
  | none => e = .returned (.tuple #[.slice none 0 0, .int .i64 110]) ∧ Below w.heap.size w w'
theorem read_by (t : ByteArray) (n : Nat) (w : World) (h1 : 1 ≤ n) (h2 : n ≤ 4096) (R : Option (List Ch))
    (h : ∀ w L, TkS w L [] → Calls Tryz.prog 168 #[.string t, .int .i64 (n : Int), .func (.func 167) #[] #[.pointer (some ⟨L, 0, none⟩)]] w (TkR w L R)) :
    Calls Tryz.prog 130 #[.string t, .int .i64 (n : Int)] w (RdR w R) := by
  have hmf : ∀ (fn : Fn) (first cap : Array Value) (w : World), (Instr.makeFunc fn first cap).run Tryz.prog w = .ok (.func fn first cap) w := fun _ _ _ _ => rfl
  have t1 : ¬ (n : Int) < 1 := by omega
  have t2 : ¬ (4096 : Int) < (n : Int) := by omega
  have hbk : Blk (w.alloc (.cells #[.slice none 0 0] 27)) w.heap.size #[.slice none 0 0] 27 := Blk.new _ _ _
  have C := hide (h (w.alloc (.cells #[.slice none 0 0] 27)) w.heap.size ⟨_, hbk, CRow.nil _ _⟩)
  have HB := hide ((Below.refl w.heap.size w).alloc (Nat.le_refl _) (.cells #[.slice none 0 0] 27))
  clear h hbk h1 h2
  go_enter Tryz.func130, Tryz.ntmps130
  go_wp2_with fail
  cases R with
  | none =>
    refine C.out.mono ?_
    rintro e w1 ⟨rfl, ht⟩
    have HT := hide (HB.out.trans ht.below)
    clear ht
    go_wp2_with fail
    go_ret2
    exact ⟨rfl, HT.out⟩
  | some cs =>
    refine C.out.mono ?_
    rintro e w1 ⟨rfl, ⟨v, hb1, hr1⟩, ht⟩
    have HT := hide (HB.out.trans ht.below)
    have HR1 := hide hr1
    obtain ⟨a, c, rfl, _⟩ := hr1.lst
    have z0 : w1.cell? ⟨w.heap.size, 0, none⟩ = some (.slice a cs.length c) := hb1.cell 0
    clear ht hr1 hb1
    go_wp2_with fail
    go_ret2
    exact ⟨_, rfl, HR1.out, HT.out⟩
end Go.Proofs.YtpdfpbbamnhkfaaGreatDoor.C11
namespace Go.Proofs.YtpdfpbbamnhkfaaGreatDoor.C11
open Go.RowKit Go.Deep
set_option linter.unusedVariables false
set_option linter.unusedSimpArgs false
set_option maxRecDepth 8000 in
set_option maxHeartbeats 1000000 in
theorem seg_any (s : ByteArray) (m i : Nat) (w : World) (hs : s.size ≤ 1073741824) (hm : 16 + 8 * m ≤ s.size) (hi : i < m) :
    Calls Tryz.prog 242 #[.string s, .int .i64 (m : Int), .int .i64 (i : Int)] w fun e w' => e = .returned (.agg #[.int .i64 (sa s.data.toList m i : Int), .int .i64 (sb s.data.toList i : Int), .int .i64 (sdl s.data.toList m i : Int), .int .i64 (sof s.data.toList m i : Int), .int .i64 (spl m i : Int)]) ∧ Below w.heap.size w w' := by
  have CT := hide (fun (j : Nat) (z : Int) (w : World) (hz : z = (j : Int)) (h : j + 2 ≤ s.size) => two_any s j z w hz h hs)
  have C1 := hide (fun z w (hz : z = ((16 + 2 * m + 2 * i : Nat) : Int)) => CT.out _ z w hz (by omega))
  have C2 := hide (fun z w (hz : z = ((14 + 2 * i : Nat) : Int)) => CT.out _ z w hz (by omega))
  have C3 := hide (fun z w (hz : z = ((16 + 4 * m + 2 * i : Nat) : Int)) => CT.out _ z w hz (by omega))
  have C4 := hide (fun z w (hz : z = ((16 + 6 * m + 2 * i : Nat) : Int)) => CT.out _ z w hz (by omega))
  have hp : ((spl m i : Nat) : Int) = 14 + 2 * (i : Int) + 2 * (m : Int) + 2 + 2 * (m : Int) + 2 * (m : Int) := by unfold spl; omega
  rw [hp]
  have e1 : n2 s.data.toList (16 + 2 * m + 2 * i) = sa s.data.toList m i := rfl
  have e2 : n2 s.data.toList (14 + 2 * i) = sb s.data.toList i := rfl
  have e3 : n2 s.data.toList (16 + 4 * m + 2 * i) = sdl s.data.toList m i := rfl
  have e4 : n2 s.data.toList (16 + 6 * m + 2 * i) = sof s.data.toList m i := rfl
  rw [e1] at C1
  rw [e2] at C2
  rw [e3] at C3
  rw [e4] at C4
  generalize ((sa s.data.toList m i : Nat) : Int) = A at *
  generalize ((sb s.data.toList i : Nat) : Int) = B at *
  generalize ((sdl s.data.toList m i : Nat) : Int) = D at *
  generalize ((sof s.data.toList m i : Nat) : Int) = O at *
  have i0 : (0 : Int) ≤ (i : Int) := by omega
  have i1 : (i : Int) ≤ 1073741824 := by omega
  have m0 : (0 : Int) ≤ (m : Int) := by omega
  have m1 : (m : Int) ≤ 1073741824 := by omega
  clear e1 e2 e3 e4 hp hi hm
  go_enter Tryz.func242, Tryz.ntmps242
  go_wp2_with fail
  refine (C1.out _ _ (by omega)).mono ?_
  rintro e w1 ⟨rfl, n1, hw⟩
  subst hw
  go_wp2_with fail
  refine (C2.out _ _ (by omega)).mono ?_
  rintro e w1 ⟨rfl, n2, hw⟩
  subst hw
  go_wp2_with fail
  refine (C3.out _ _ (by omega)).mono ?_
  rintro e w1 ⟨rfl, n3, hw⟩
  subst hw
  go_wp2_with fail
  refine (C4.out _ _ (by omega)).mono ?_
  rintro e w1 ⟨rfl, n4, hw⟩
  subst hw
  go_wp2_with fail
  refine bodyPost_ret (v := .agg #[.int .i64 A, .int .i64 B, .int .i64 D, .int .i64 O, .int .i64 (14 + 2 * (i : Int) + 2 * (m : Int) + 2 + 2 * (m : Int) + 2 * (m : Int))]) (by simp [results, Tryz.results242, go_sem]) rfl ⟨rfl, (((((below_drewN ((Below.refl w.heap.size w).alloc (Nat.le_refl _) _) _).setCell (p := ⟨w.heap.size, 0, none⟩) (Nat.le_refl _) _).setCell (p := ⟨w.heap.size, 1, none⟩) (Nat.le_refl _) _).setCell (p := ⟨w.heap.size, 2, none⟩) (Nat.le_refl _) _).setCell (p := ⟨w.heap.size, 3, none⟩) (Nat.le_refl _) _).setCell (p := ⟨w.heap.size, 4, none⟩) (Nat.le_refl _) _⟩
def glW (l : List UInt8) (a d o p c : Nat) : Option Nat :=
  if o = 0 then some ((c + d) % 65536) else
  if o % 2 ≠ 0 ∨ l.length < p + o + 2 * (c - a) + 2 then none else
  if n2 l (p + o + 2 * (c - a)) = 0 then some 0 else
  some ((n2 l (p + o + 2 * (c - a)) + d) % 65536)
def GlR (w : World) (R : Option Nat) (e : Ending) (w' : World) : Prop := match R with
  | some g => e = .returned (.tuple #[.int .i64 (g : Int), .bool true]) ∧ Below w.heap.size w w'
  | none => e = .returned (.tuple #[.int .i64 0, .bool false]) ∧ Below w.heap.size w w'
set_option maxRecDepth 8000 in
set_option maxHeartbeats 1000000 in
theorem gly_any (s : ByteArray) (a b d o p c : Nat) (w : World) (hs : s.size ≤ 1073741824) (hd : d ≤ 65535) (ho : o ≤ 65535) (hp : p ≤ 1073741824) (hc : c ≤ 65535) (ha : a ≤ c) :
    Calls Tryz.prog 252 #[.agg #[.int .i64 (a : Int), .int .i64 (b : Int), .int .i64 (d : Int), .int .i64 (o : Int), .int .i64 (p : Int)], .string s, .int .i64 (c : Int)] w (GlR w (glW s.data.toList a d o p c)) := by
  have HB := hide ((Below.refl w.heap.size w).alloc (Nat.le_refl _) (.cells #[.int .i64 (a : Int), .int .i64 (b : Int), .int .i64 (d : Int), .int .i64 (o : Int), .int .i64 (p : Int)] 273))
  have hs' : (s.size : Int) ≤ 1073741824 := by omega
  have a0 : (0 : Int) ≤ (a : Int) := by omega
  have a1 : (a : Int) ≤ (c : Int) := by omega
  have c0' : (0 : Int) ≤ (c : Int) := by omega
  have c1' : (c : Int) ≤ 65535 := by omega
  have d0 : (0 : Int) ≤ (d : Int) := by omega
  have d1 : (d : Int) ≤ 65535 := by omega
  have o0 : (0 : Int) ≤ (o : Int) := by omega
  have o1 : (o : Int) ≤ 65535 := by omega
  have p0 : (0 : Int) ≤ (p : Int) := by omega
  have p1 : (p : Int) ≤ 1073741824 := by omega
  by_cases h1 : o = 0
  · have hv : glW s.data.toList a d o p c = some ((c + d) % 65536) := by unfold glW; rw [if_pos h1]
    rw [hv]
    obtain ⟨Y, hY⟩ : ∃ Y, (c + d) % 65536 = Y := ⟨_, rfl⟩
    rw [hY]
    have q1 : ((c : Int) + (d : Int)) % 65536 = (Y : Int) := by omega
    have q2 : ((c : Int) + (d : Int)).tmod 65536 = (Y : Int) := by rw [Int.tmod_eq_emod_of_nonneg (by omega)]; exact q1
    have t1 : ((o : Int) == 0) = true := by simp; omega
    clear hv hY h1 hd ho hp hc ha hs
    go_enter Tryz.func252, Tryz.ntmps252
    go_wp2_with fail
    go_ret2
    exact ⟨rfl, HB.out⟩
  have t1 : ((o : Int) == 0) = false := by simp; omega
  by_cases h2 : o % 2 = 0
  case neg =>
    have hv : glW s.data.toList a d o p c = none := by unfold glW; rw [if_neg h1, if_pos (Or.inl h2)]
    rw [hv]
    have q1 : ((o : Int)) % 2 = 1 := by omega
    have q2 : ((o : Int)).tmod 2 = 1 := by rw [Int.tmod_eq_emod_of_nonneg (by omega)]; exact q1
    clear hv h1 h2 hd ho hp hc ha hs
    go_enter Tryz.func252, Tryz.ntmps252
    go_wp2_with fail
    go_ret2
    exact ⟨rfl, HB.out⟩
  have q1 : ((o : Int)) % 2 = 0 := by omega
  have q2 : ((o : Int)).tmod 2 = 0 := by rw [Int.tmod_eq_emod_of_nonneg (by omega)]; exact q1
  by_cases h3 : s.size < p + o + 2 * (c - a) + 2
  · have hv : glW s.data.toList a d o p c = none := by unfold glW; rw [if_neg h1, if_pos (Or.inr (by rw [← Lib.size_eq]; exact h3))]
    rw [hv]
    have t3 : (s.size : Int) < (p : Int) + (o : Int) + 2 * ((c : Int) - (a : Int)) + 2 := by omega
    clear hv h1 h2 h3 hd ho hp hc ha hs
    go_enter Tryz.func252, Tryz.ntmps252
    go_wp2_with fail
    go_ret2
    exact ⟨rfl, HB.out⟩
  have t3 : ¬ (s.size : Int) < (p : Int) + (o : Int) + 2 * ((c : Int) - (a : Int)) + 2 := by omega
  have C := hide (fun z w (hz : z = ((p + o + 2 * (c - a) : Nat) : Int)) => two_any s (p + o + 2 * (c - a)) z w hz (by omega) hs)
  have hv : glW s.data.toList a d o p c = if n2 s.data.toList (p + o + 2 * (c - a)) = 0 then some 0 else some ((n2 s.data.toList (p + o + 2 * (c - a)) + d) % 65536) := by
    unfold glW
    rw [if_neg h1, if_neg]
    rintro (h | h)
    · exact h h2
    · rw [← Lib.size_eq] at h; exact h3 h
  have bt := n2_lt s.data.toList (p + o + 2 * (c - a))
  rw [hv]
  have HZ : Hid ((p : Int) + (o : Int) + 2 * ((c : Int) - (a : Int)) = ((p + o + 2 * (c - a) : Nat) : Int)) := hide (by omega)
  generalize n2 s.data.toList (p + o + 2 * (c - a)) = G at *
  by_cases h4 : G = 0
  · rw [if_pos h4]
    subst h4
    clear hv h1 h2 h3 hd ho hp hc ha hs bt
    go_enter Tryz.func252, Tryz.ntmps252
    go_wp2_with fail
    refine (C.out _ _ HZ.out).mono ?_
    rintro e w1 ⟨rfl, m, hw⟩
    subst hw
    go_wp2_with fail
    go_ret2
    exact ⟨rfl, below_drewN HB.out _⟩
  · rw [if_neg h4]
    obtain ⟨Y, hY⟩ : ∃ Y, (G + d) % 65536 = Y := ⟨_, rfl⟩
    rw [hY]
    have r1 : ((G : Int) + (d : Int)) % 65536 = (Y : Int) := by omega
    have r2 : ((G : Int) + (d : Int)).tmod 65536 = (Y : Int) := by rw [Int.tmod_eq_emod_of_nonneg (by omega)]; exact r1
    have t4 : ((G : Int) == 0) = false := by simp; omega
    have g0 : (0 : Int) ≤ (G : Int) := by omega
    have g1 : (G : Int) ≤ 65535 := by omega
    clear hv h1 h2 h3 hd ho hp hc ha hs bt h4 hY
    go_enter Tryz.func252, Tryz.ntmps252
    go_wp2_with fail
    refine (C.out _ _ HZ.out).mono ?_
    rintro e w1 ⟨rfl, m, hw⟩
    subst hw
    have hz := Blk.drewN (Blk.new w #[.int .i64 (a : Int), .int .i64 (b : Int), .int .i64 (d : Int), .int .i64 (o : Int), .int .i64 (p : Int)] 273) m
    go_wp2_with fail
    go_ret2
    exact ⟨rfl, below_drewN HB.out _⟩
end Go.Proofs.YtpdfpbbamnhkfaaGreatDoor.C11
namespace Go.Proofs.YtpdfpbbamnhkfaaGreatDoor.C11
open Go.RowKit Go.Deep
set_option linter.unusedVariables false
set_option linter.unusedSimpArgs false
def gstep (n : Nat) (cs : List Ch) (c : Int) : Option Nat → Option (List Ch)
  | none => none
  | some g => if g < n then addC cs c (g : Int) else none
def stG (l : List UInt8) (a d o p n : Nat) (cs : List Ch) (c : Nat) : Option (List Ch) :=
  if c = 65535 ∨ isP (c : Int) = false then some cs else
  gstep n cs (c : Int) (glW l a d o p c)
def segG (l : List UInt8) (a d o p n : Nat) (cs : List Ch) : Nat → Option (List Ch)
  | 0 => some cs
  | j + 1 => (segG l a d o p n cs j).bind fun x => stG l a d o p n x (a + j)
theorem segF_eq (s : List UInt8) (m n i : Nat) (cs : List Ch) : ∀ j, segF s m n i cs j = segG s (sa s m i) (sdl s m i) (sof s m i) (spl m i) n cs j
  | 0 => rfl
  | j + 1 => by
    rw [segF, segG, segF_eq s m n i cs j]
    congr 1
theorem segG_none {l : List UInt8} {a d o p n : Nat} {cs : List Ch} {j : Nat} (h : segG l a d o p n cs j = none) : ∀ e, segG l a d o p n cs (j + e) = none
  | 0 => h
  | e + 1 => by rw [← Nat.add_assoc, segG, segG_none h e]; rfl
theorem segG_end {l : List UInt8} {a d o p n : Nat} {cs : List Ch} {j k : Nat} (h : segG l a d o p n cs j = none) (hk : j ≤ k) : segG l a d o p n cs k = none := by
  have := segG_none h (k - j)
  rwa [show j + (k - j) = k by omega] at this
set_option maxRecDepth 8000 in
set_option maxHeartbeats 4000000 in
theorem sw_any (L : Nat) (s : ByteArray) (a b d o p n : Nat) (cur : List Ch) (w : World) (hs : s.size ≤ 1073741824) (hd : d ≤ 65535) (ho : o ≤ 65535) (hp : p ≤ 1073741824) (hb : b ≤ 65535) (hab : a ≤ b) (hn : n ≤ 4096) (hS : TkS w L cur) (hBD : BD cur) :
    Calls Tryz.prog 243 #[.agg #[.int .i64 (a : Int), .int .i64 (b : Int), .int .i64 (d : Int), .int .i64 (o : Int), .int .i64 (p : Int)], .string s, .int .i64 (n : Int), .func (.func 167) #[] #[.pointer (some ⟨L, 0, none⟩)]] w (TkR w L (segG s.data.toList a d o p n cur (b - a + 1))) := by
  have hLw := hS.lt
  have CP := hide isPt_any
  have CG := hide (fun (c : Nat) (w : World) (h1 : c ≤ 65535) (h2 : a ≤ c) => gly_any s a b d o p c w hs hd ho hp h1 h2)
  have hal : Below w.heap.size w (w.alloc (.cells #[.int .i64 (a : Int), .int .i64 (b : Int), .int .i64 (d : Int), .int .i64 (o : Int), .int .i64 (p : Int)] 273)) := (Below.refl _ _).alloc (Nat.le_refl _) _
  have HS0 := hide (hS.below hal)
  have HT0 := hide (TF.of_below hal (Nat.le_of_lt hLw))
  have HB0 := hide (Blk.new w #[.int .i64 (a : Int), .int .i64 (b : Int), .int .i64 (d : Int), .int .i64 (o : Int), .int .i64 (p : Int)] 273)
  have HBD := hide hBD
  have HAB := hide (And.intro hab hb)
  have hn' : (n : Int) ≤ 4096 := by omega
  have a0 : (0 : Int) ≤ (a : Int) := by omega
  have ab' : (a : Int) ≤ (b : Int) := by omega
  have b1 : (b : Int) ≤ 65535 := by omega
  obtain ⟨cnt, hcnt⟩ : ∃ cnt : Nat, cnt = b - a + 1 := ⟨_, rfl⟩
  have HCN := hide hcnt
  rw [← hcnt]
  obtain ⟨RR, hRR⟩ : ∃ RR, segG s.data.toList a d o p n cur cnt = RR := ⟨_, rfl⟩
  rw [hRR]
  have HRR := hide hRR
  clear hRR hcnt hal hS hBD hab hb hs hd ho hp hn
  go_enter Tryz.func243, Tryz.ntmps243
  go_wp2_with fail
  go_loopw [19] (fun vi wr => ∃ (j : Nat) (cu : List Ch), vi = .int .i64 j ∧ Hid (j ≤ cnt ∧ segG s.data.toList a d o p n cur j = some cu ∧ BD cu ∧ TkS wr L cu ∧ TF L w wr ∧ Blk wr w.heap.size #[.int .i64 (a : Int), .int .i64 (b : Int), .int .i64 (d : Int), .int .i64 (o : Int), .int .i64 (p : Int)] 273)) (fun vi _ => cnt - (intOf vi).toNat)
  case atStart => exact ⟨0, cur, rfl, hide ⟨by omega, rfl, HBD.out, HS0.out, HT0.out, HB0.out⟩⟩
  case round =>
    obtain ⟨j, cu, rfl, HV⟩ := hrel
    obtain ⟨hj, hgr, hbd, htk, htf, hblk⟩ := HV.out
    have hj0 : (0 : Int) ≤ (j : Int) := by omega
    have HGR := hide hgr
    have HBD2 := hide hbd
    have HTK := hide htk
    have HTF := hide htf
    have HBK := hide hblk
    clear HV hgr hbd htk htf HS0 HT0 HB0
    by_cases hlt : j < cnt
    case neg =>
      have hlt' : ¬ (j : Int) < (b : Int) - (a : Int) + 1 := by have := HCN.out; have := HAB.out; omega
      have EJ : Hid (RR = some cu) := hide (by
        rw [← HRR.out, ← HGR.out]
        obtain rfl : j = cnt := by omega
        rfl)
      clear hblk
      go_wp2_with fail
      go_ret
      rw [EJ.out]
      exact ⟨rfl, HTK.out, HTF.out⟩
    have hlt' : (j : Int) < (b : Int) - (a : Int) + 1 := by have := HCN.out; have := HAB.out; omega
    have z0 : wr.cell? ⟨w.heap.size, 0, none⟩ = some (.int .i64 (a : Int)) := hblk.cell 0
    have z1 : wr.cell? ⟨w.heap.size, 1, none⟩ = some (.int .i64 (b : Int)) := hblk.cell 1
    have z2 : wr.cell? ⟨w.heap.size, 2, none⟩ = some (.int .i64 (d : Int)) := hblk.cell 2
    have z3 : wr.cell? ⟨w.heap.size, 3, none⟩ = some (.int .i64 (o : Int)) := hblk.cell 3
    have z4 : wr.cell? ⟨w.heap.size, 4, none⟩ = some (.int .i64 (p : Int)) := hblk.cell 4
    have zl : w.heap.size < wr.heap.size := hblk.lt
    obtain ⟨c, hc⟩ : ∃ c : Int, (a : Int) + (j : Int) = c := ⟨_, rfl⟩
    have q0 : 0 ≤ c := by omega
    have q1 : c ≤ 65535 := by omega
    have HC : Hid (((a + j : Nat) : Int) = c) := hide (by omega)
    have CG1 := hide (fun w => CG.out (a + j) w (by have := HC.out; omega) (by omega))
    have EST : Hid (segG s.data.toList a d o p n cur (j + 1) = stG s.data.toList a d o p n cu (a + j)) := hide (by rw [segG, HGR.out]; rfl)
    have EST0 : Hid (stG s.data.toList a d o p n cu (a + j) = if c = 65535 ∨ isP c = false then some cu else gstep n cu c (glW s.data.toList a d o p (a + j))) := hide (by
      unfold stG
      rw [HC.out]
      have e : (a + j = 65535 ∨ isP c = false) ↔ (c = 65535 ∨ isP c = false) := by
        have := HC.out
        constructor
        · rintro (h | h)
          · exact Or.inl (by omega)
          · exact Or.inr h
        · rintro (h | h)
          · exact Or.inl (by omega)
          · exact Or.inr h
      by_cases hh : c = 65535 ∨ isP c = false
      · rw [if_pos (e.2 hh), if_pos hh]
      · rw [if_neg (fun x => hh (e.1 x)), if_neg hh])
    have hcc := HC.out
    rw [hcc] at CG1
    generalize glW s.data.toList a d o p (a + j) = GW at *
    have ENO : Hid (segG s.data.toList a d o p n cur (j + 1) = none → RR = none) := hide (fun h => by rw [← HRR.out]; exact segG_end h (by omega))
    clear hblk hcc
    by_cases c1 : c = 65535
    · have E : Hid (segG s.data.toList a d o p n cur (j + 1) = some cu) := hide (by rw [EST.out, EST0.out, if_pos (Or.inl c1)])
      have c1' : (c == 65535) = true := by simpa using c1
      clear EST EST0 ENO c1
      go_wp2_with fail
      go_roundw
      case rel => exact ⟨j + 1, cu, by go_num, hide ⟨by omega, E.out, HBD2.out, HTK.out, HTF.out, HBK.out⟩⟩
      case measure => simp [intOf]; omega
    have c1' : (c == 65535) = false := by simpa using c1
    have CP1 := hide (CP.out c)
    cases hpt : isP c
    · have E : Hid (segG s.data.toList a d o p n cur (j + 1) = some cu) := hide (by rw [EST.out, EST0.out, if_pos (Or.inr hpt)])
      rw [hpt] at CP1
      clear EST EST0 ENO c1 hpt
      go_wp2_with fail
      refine (CP1.out _).mono ?_
      rintro e w1 ⟨rfl, hw⟩
      subst hw
      go_wp2_with fail
      go_roundw
      case rel => exact ⟨j + 1, cu, by go_num, hide ⟨by omega, E.out, HBD2.out, HTK.out, HTF.out, HBK.out⟩⟩
      case measure => simp [intOf]; omega
    have E1 : Hid (segG s.data.toList a d o p n cur (j + 1) = gstep n cu c GW) := hide (by
      rw [EST.out, EST0.out, if_neg]
      rintro (h | h)
      · exact c1 h
      · rw [hpt] at h; cases h)
    rw [hpt] at CP1
    clear EST EST0 c1 hpt
    go_wp2_with fail
    refine (CP1.out _).mono ?_
    rintro e w1 ⟨rfl, hw⟩
    subst hw
    cases GW with
    | none =>
      have EN := hide (ENO.out E1.out)
      clear ENO E1
      go_wp2_with fail
      refine (CG1.out _).mono ?_
      rintro e w1 ⟨rfl, h1⟩
      have HT1 := hide (HTF.out.trans (TF.of_below h1 (Nat.le_of_lt HTK.out.lt)))
      clear h1
      go_wp2_with fail
      go_ret
      rw [EN.out]
      exact ⟨rfl, HT1.out⟩
    | some g =>
      by_cases hg : g < n
      case neg =>
        have EN := hide (ENO.out (by rw [E1.out]; exact if_neg hg))
        have hg' : (n : Int) ≤ (g : Int) := by omega
        clear ENO E1
        go_wp2_with fail
        refine (CG1.out _).mono ?_
        rintro e w1 ⟨rfl, h1⟩
        have HT1 := hide (HTF.out.trans (TF.of_below h1 (Nat.le_of_lt HTK.out.lt)))
        clear h1
        go_wp2_with fail
        go_ret
        rw [EN.out]
        exact ⟨rfl, HT1.out⟩
      have hg' : ¬ (n : Int) ≤ (g : Int) := by omega
      have gr0 : (0 : Int) ≤ (g : Int) := by omega
      have gr1 : (g : Int) ≤ 4294967296 := by omega
      have E2 : Hid (segG s.data.toList a d o p n cur (j + 1) = addC cu c (g : Int)) := hide (by rw [E1.out]; exact if_pos hg)
      have CT := hide (fun (w : World) (h : TkS w L cu) => take_any L c (g : Int) cu w h HBD2.out gr0 gr1 q0 (by omega))
      have HADD := hide (fun cs2 h => HBD2.out.add (cs' := cs2) q0 (by omega) gr0 gr1 h)
      clear E1 gr1
      generalize addC cu c (g : Int) = AD at *
      cases AD with
      | none =>
        have EN := hide (ENO.out E2.out)
        clear ENO E2
        go_wp2_with fail
        refine (CG1.out _).mono ?_
        rintro e w1 ⟨rfl, h1⟩
        have HK1 := hide (HTK.out.below h1)
        have HT1 := hide (HTF.out.trans (TF.of_below h1 (Nat.le_of_lt HTK.out.lt)))
        clear h1
        go_wp2_with fail
        refine (CT.out _ HK1.out).mono ?_
        rintro e w2 ⟨rfl, h2⟩
        have HT2 := hide (HT1.out.trans h2)
        clear h2
        go_wp2_with fail
        go_ret
        rw [EN.out]
        exact ⟨rfl, HT2.out⟩
      | some cs2 =>
        have HBD3 := hide (HADD.out cs2 rfl)
        clear ENO HADD
        go_wp2_with fail
        refine (CG1.out _).mono ?_
        rintro e w1 ⟨rfl, h1⟩
        have HK1 := hide (HTK.out.below h1)
        have HT1 := hide (HTF.out.trans (TF.of_below h1 (Nat.le_of_lt HTK.out.lt)))
        have HBK1 := hide (HBK.out.below h1)
        clear h1
        go_wp2_with fail
        refine (CT.out _ HK1.out).mono ?_
        rintro e w2 ⟨rfl, hk2, h2⟩
        have HK2 := hide hk2
        have HT2 := hide (HT1.out.trans h2)
        have HBK2 := hide (h2.blk HBK1.out (by omega) (by decide))
        clear h2 hk2
        go_wp2_with fail
        go_roundw
        case rel => exact ⟨j + 1, cs2, by go_num, hide ⟨by omega, E2.out, HBD3.out, HK2.out, HT2.out, HBK2.out⟩⟩
        case measure => simp [intOf]; omega
end Go.Proofs.YtpdfpbbamnhkfaaGreatDoor.C11
