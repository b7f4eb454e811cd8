/-
  Rows of texts; what keep's Same and Texts answer of what is alike; IsSorted; make.
-/
import Derived.Test.YtjacjdglklcijaaDoorG10Ck
import Derived.Test.YtjacjdglklcijaaDoorM9Cln
import Derived.RegionTactic
import Derived.ChangeAlike
import Derived.ChangeKeysEq
namespace Go.Proofs.YtjacjdglklcijaaDoor
open Go.RowKit Go.Deep
set_option linter.unusedVariables false
set_option linter.unusedSimpArgs false

/- texts lie at the address a -/
def SLst (w : World) (a : Option Addr) (zs : List ByteArray) : Prop :=
  zs = [] ∨ ∃ b off, a = some ⟨b, off, none⟩ ∧ b < w.heap.size ∧ ∀ i, i < zs.length → w.cell? ⟨b, off + i, none⟩ = some (.string (zs.getD i ⟨#[]⟩))
theorem SLst.below {w w' : World} {a : Option Addr} {zs : List ByteArray} (h : SLst w a zs) (hb : Below w.heap.size w w') : SLst w' a zs := by
  rcases h with h | ⟨b, off, h1, h2, h3⟩
  · exact Or.inl h
  · exact Or.inr ⟨b, off, h1, Nat.lt_of_lt_of_le h2 hb.size, fun i hi => by rw [hb.cell (p := ⟨b, off + i, none⟩) h2]; exact h3 i hi⟩
theorem SLst.drewN {w : World} {a : Option Addr} {zs : List ByteArray} (h : SLst w a zs) (n : Nat) : SLst (w.drewN n) a zs := h
theorem ksame_any (a b : Option Addr) (len ca cb : Nat) (zs : List Int) (w : World) (hl : zs.length = len) (h4 : len ≤ 1048576) (hA : Lst w a zs) (hB : Lst w b zs) :
    Calls Tryd.prog 13 #[.slice a len ca, .slice b len cb] w fun e w' => e = .returned (.bool true) ∧ ∃ n, w' = w.drewN n := by
  have HA := hide hA
  have HB := hide hB
  have Hl := hide hl
  have h5 : (len : Int) ≤ 1048576 := by omega
  have t0 : ((len : Int) != (len : Int)) = false := by simp
  clear hA hB hl
  go_enter Tryd.func13, Tryd.ntmps13
  go_wp2_with fail
  go_loopw [5] (fun vi wr => ∃ (k n : Nat), vi = .int .i64 k ∧ wr = w.drewN n ∧ Hid (k ≤ len)) (fun vi _ => len - (intOf vi).toNat)
  case atStart => exact ⟨0, 0, rfl, rfl, hide (by omega)⟩
  case round =>
    obtain ⟨k, n, rfl, rfl, HK⟩ := hrel
    by_cases hlt : k < len
    · have hlt' : (k : Int) < (len : Int) := by omega
      have hl := Hl.out
      rcases HA.out with hz | ⟨b1, o1, rfl, hb1, hcell1⟩
      · rw [hz] at hl; simp at hl; omega
      rcases HB.out with hz | ⟨b2, o2, rfl, hb2, hcell2⟩
      · rw [hz] at hl; simp at hl; omega
      have hc1 := hcell1 k (by omega)
      have hc2 := hcell2 k (by omega)
      generalize zs.getD k 0 = z at *
      clear hcell1 hcell2 hl
      go_wp2_with fail
      go_quiet (fail)
      go_wp2
      go_roundw
      case rel => exact ⟨k + 1, _, by go_num, rfl, hide (by omega)⟩
      case measure => simp [intOf]; omega
    · have hlt' : ¬ (k : Int) < (len : Int) := by omega
      go_wp2
      go_ret
      exact ⟨rfl, n, rfl⟩
theorem ktexts_any (a b : Option Addr) (len ca cb : Nat) (zs : List ByteArray) (w : World) (hl : zs.length = len) (h4 : len ≤ 1048576) (hA : SLst w a zs) (hB : SLst w b zs) :
    Calls Tryd.prog 9 #[.slice a len ca, .slice b len cb] w fun e w' => e = .returned (.bool true) ∧ ∃ n, w' = w.drewN n := by
  have HA := hide hA
  have HB := hide hB
  have Hl := hide hl
  have h5 : (len : Int) ≤ 1048576 := by omega
  have t0 : ((len : Int) != (len : Int)) = false := by simp
  clear hA hB hl
  go_enter Tryd.func9, Tryd.ntmps9
  go_wp2_with fail
  go_loopw [5] (fun vi wr => ∃ (k n : Nat), vi = .int .i64 k ∧ wr = w.drewN n ∧ Hid (k ≤ len)) (fun vi _ => len - (intOf vi).toNat)
  case atStart => exact ⟨0, 0, rfl, rfl, hide (by omega)⟩
  case round =>
    obtain ⟨k, n, rfl, rfl, HK⟩ := hrel
    by_cases hlt : k < len
    · have hlt' : (k : Int) < (len : Int) := by omega
      have hl := Hl.out
      rcases HA.out with hz | ⟨b1, o1, rfl, hb1, hcell1⟩
      · rw [hz] at hl; simp at hl; omega
      rcases HB.out with hz | ⟨b2, o2, rfl, hb2, hcell2⟩
      · rw [hz] at hl; simp at hl; omega
      have hc1 := hcell1 k (by omega)
      have hc2 := hcell2 k (by omega)
      generalize zs.getD k ⟨#[]⟩ = z at *
      clear hcell1 hcell2 hl
      go_wp2_with fail
      go_quiet (fail)
      go_wp2
      go_roundw
      case rel => exact ⟨k + 1, _, by go_num, rfl, hide (by omega)⟩
      case measure => simp [intOf]; omega
    · have hlt' : ¬ (k : Int) < (len : Int) := by omega
      go_wp2
      go_ret
      exact ⟨rfl, n, rfl⟩
/- n cells, of which the first k are those of f, the others z -/
def arw (f : Nat → Value) (z : Value) (n k : Nat) : Array Value := ((List.range n).map fun i => if i < k then f i else z).toArray
theorem arw_size (f : Nat → Value) (z : Value) (n k : Nat) : (arw f z n k).size = n := by simp [arw]
theorem arw_at (f : Nat → Value) (z : Value) (n k j : Nat) (h : j < n) : (arw f z n k)[j]? = some (if j < k then f j else z) := by simp [arw, h]
theorem arw_set (f : Nat → Value) (z : Value) (n k : Nat) (h : k < n) : (arw f z n k).setIfInBounds k (f k) = arw f z n (k + 1) := by
  apply Array.ext_getElem?
  intro j
  rw [Array.getElem?_setIfInBounds]
  by_cases hj : j < n
  · rw [arw_at _ _ _ _ _ hj, arw_at _ _ _ _ _ hj]
    by_cases e : k = j
    · subst e; simp [arw_size, hj]
    · rw [if_neg e]
      by_cases h1 : j < k
      · rw [if_pos h1, if_pos (by omega)]
      · rw [if_neg h1, if_neg (by omega)]
  · rw [if_neg (by rintro rfl; exact hj h)]
    rw [Array.getElem?_eq_none (by rw [arw_size]; omega), Array.getElem?_eq_none (by rw [arw_size]; omega)]
theorem arw_zero (f : Nat → Value) (z : Value) (n : Nat) : arw f z n 0 = Array.replicate n z := by
  apply Array.ext_getElem?
  intro j
  by_cases hj : j < n
  · rw [arw_at _ _ _ _ _ hj]; simp [hj]
  · rw [Array.getElem?_eq_none (by rw [arw_size]; omega), Array.getElem?_eq_none (by simp; omega)]
theorem make_ints (n : Nat) (z : Int) (hz : z = (n : Int)) (hn : n ≤ 100000) (x : World) : (Instr.makeSlice 35 (.int .i64 z) (.int .i64 z)).run Tryd.prog x = .ok (.slice (some ⟨x.heap.size, 0, none⟩) n n) (x.alloc (.cells (Array.replicate n (.int .i64 0)) 3)) := by
  subst hz
  obtain ⟨i0, hi, hz0, hz1, hz2⟩ := info_parts5 info_int
  have h := run_make (P := Tryd.prog) x 35 3 i0 (.int .i64 0) Tryd.underlying35 hi hz0 .i64 .i64 n n (by omega) (Int.le_refl _) (by rw [hz2]; omega) (by omega)
  rw [hz1] at h
  simp only [Int.toNat_natCast, Nat.mul_one] at h
  have e : madeCells (Value.int .i64 0).cells n = Array.replicate n (.int .i64 0) := by
    apply Array.ext (by simp [madeCells])
    intro j h1 h2
    simp [madeCells, Value.cells, Nat.mod_one]
  rw [e] at h
  exact h
theorem info_str : (Tryd.prog.info? 9).map (fun i => (i.zero, i.size, i.bytes)) = some (some (.string ⟨#[]⟩), 1, 16) := by kernel_rfl
theorem make_strs (n : Nat) (hn : n ≤ 100000) (x : World) : (Instr.makeSlice 22 (.int .i64 (n : Int)) (.int .i64 (n : Int))).run Tryd.prog x = .ok (.slice (some ⟨x.heap.size, 0, none⟩) n n) (x.alloc (.cells (Array.replicate n (.string ⟨#[]⟩)) 9)) := by
  obtain ⟨i0, hi, hz0, hz1, hz2⟩ := info_parts5 info_str
  have h := run_make (P := Tryd.prog) x 22 9 i0 (.string ⟨#[]⟩) Tryd.underlying22 hi hz0 .i64 .i64 n n (by omega) (Int.le_refl _) (by rw [hz2]; omega) (by omega)
  rw [hz1] at h
  simp only [Int.toNat_natCast, Nat.mul_one] at h
  have e : madeCells (Value.string ⟨#[]⟩).cells n = Array.replicate n (.string ⟨#[]⟩) := by
    apply Array.ext (by simp [madeCells])
    intro j h1 h2
    simp [madeCells, Value.cells, Nat.mod_one]
  rw [e] at h
  exact h
theorem nan_any (x : Int) (w : World) : Calls Tryd.prog 29 #[.int .i64 x] w fun e w' => e = .returned (.bool false) ∧ w' = w := by
  have h : (x != x) = false := by simp
  go_enter Tryd.func29, Tryd.ntmps29
  go_wp2_with fail
  go_ret
  exact ⟨by simp, rfl⟩
theorem less_any (x y : Int) (w : World) : Calls Tryd.prog 25 #[.int .i64 x, .int .i64 y] w fun e w' => e = .returned (.bool (decide (x < y))) ∧ w' = w := by
  have C := hide (nan_any x)
  go_enter Tryd.func25, Tryd.ntmps25
  go_wp2_with fail
  refine (C.out _).mono ?_
  rintro e wy ⟨rfl, hy⟩
  subst wy
  go_wp2_with fail
  go_ret
  exact ⟨rfl, rfl⟩
/- do n ints not fall? -/
def srtB (f : Nat → Int) (n : Nat) : Bool := (List.range (n - 1)).all fun i => decide (f i ≤ f (i + 1))
theorem srt_iff (f : Nat → Int) (n : Nat) : srtB f n = true ↔ ∀ i, i + 1 < n → f i ≤ f (i + 1) := by
  unfold srtB
  rw [List.all_eq_true]
  constructor
  · intro h i hi
    simpa using h i (by simp; omega)
  · intro h i hi
    simp at hi
    simpa using h i (by omega)
set_option maxRecDepth 8000 in
set_option maxHeartbeats 1000000 in
theorem sorted_any (g n : Nat) (f : Nat → Int) (w : World) (h1 : 1 ≤ n) (hn : n ≤ 100000) (hg : g < w.heap.size) (hc : ∀ i, i < n → w.cell? ⟨g, i, none⟩ = some (.int .i64 (f i))) :
    Calls Tryd.prog 21 #[.slice (some ⟨g, 0, none⟩) n n] w fun e w' => e = .returned (.bool (srtB f n)) ∧ ∃ m, w' = w.drewN m := by
  have CL := hide less_any
  have HC := hide hc
  have hn' : (n : Int) ≤ 100000 := by omega
  have hn1 : (1 : Int) ≤ (n : Int) := by omega
  clear hc
  go_enter Tryd.func21, Tryd.ntmps21
  go_wp2_with fail
  go_loopw [3] (fun v wr => ∃ k m : Nat, v = .int .i64 (k : Int) ∧ wr = w.drewN m ∧ Hid (k < n ∧ ∀ i, k ≤ i → i + 1 < n → f i ≤ f (i + 1))) (fun v _ => (intOf v).toNat)
  case atStart => exact ⟨n - 1, 0, congrArg (Value.int .i64) (by omega), rfl, hide ⟨by omega, fun i a b => by omega⟩⟩
  case round =>
    obtain ⟨k, m, rfl, rfl, HV⟩ := hrel
    obtain ⟨k1, k2⟩ := HV.out
    have K2 := hide k2
    clear HV k2
    by_cases hk : k = 0
    · subst hk
      have hd : decide ((0 : Int) < ((0 : Nat) : Int)) = false := by simp
      have E := hide (show srtB f n = true from (srt_iff f n).2 fun i hi => K2.out i (by omega) hi)
      go_wp2_with fail
      go_ret
      exact ⟨by rw [E.out]; rfl, m, rfl⟩
    · obtain ⟨j, hj⟩ : ∃ j, k = j + 1 := ⟨k - 1, by omega⟩
      have HJ := hide hj
      have hk0 : (0 : Int) < (k : Int) := by omega
      have c1 := HC.out k k1
      have c2 := HC.out j (by omega)
      have i1 : (k : Int) < (n : Int) := by omega
      have i2 : (k : Int) - 1 = (j : Int) := by omega
      have i3 : (0 : Int) ≤ (j : Int) := by omega
      have i4 : (j : Int) < (n : Int) := by omega
      have i6 : (0 : Int) ≤ (k : Int) := by omega
      have i7 : IntKind.i64.wrap (j : Int) = (j : Int) := by rw [IntKind.wrap_i64]; omega
      have i5 : IntKind.i64.wrap ((k : Int) - 1) = (j : Int) := by rw [IntKind.wrap_i64]; omega
      clear hk
      by_cases hlt : f k < f j
      · have E := hide (show srtB f n = false by
          cases e : srtB f n with
          | false => rfl
          | true => exact absurd ((srt_iff f n).1 e j (by omega)) (by rw [← hj]; omega))
        have CL2 := hide (fun w => CL.out (f k) (f j) w)
        rw [show decide (f k < f j) = true by simpa using hlt] at CL2
        generalize f k = X at c1 CL2
        generalize f j = Y at c2 CL2
        clear hlt CL HC hj
        go_wp2_with fail
        go_quiet ((go_at_call 25; exact (CL2.out _).mono fun _ _ h => ⟨h.1, _, h.2⟩))
        go_wp2_with fail
        go_ret
        exact ⟨by rw [E.out]; rfl, m + nq, by rw [World.drewN_drewN]⟩
      · have K3 : Hid (∀ i, j ≤ i → i + 1 < n → f i ≤ f (i + 1)) := hide fun i a b => by
          by_cases e : i = j
          · subst e; rw [← hj]; omega
          · exact K2.out i (by omega) b
        have CL2 := hide (fun w => CL.out (f k) (f j) w)
        rw [show decide (f k < f j) = false by simpa using hlt] at CL2
        generalize f k = X at c1 CL2
        generalize f j = Y at c2 CL2
        clear hlt CL hj
        go_wp2_with fail
        go_quiet ((go_at_call 25; exact (CL2.out _).mono fun _ _ h => ⟨h.1, _, h.2⟩))
        go_wp2_with fail
        go_roundw
        case rel => exact ⟨j, _, by first | rfl | exact congrArg (Value.int .i64) (by omega), rfl, hide ⟨by have := HJ.out; omega, K3.out⟩⟩
        case measure => have := HJ.out; simp [intOf]; omega
end Go.Proofs.YtjacjdglklcijaaDoor
