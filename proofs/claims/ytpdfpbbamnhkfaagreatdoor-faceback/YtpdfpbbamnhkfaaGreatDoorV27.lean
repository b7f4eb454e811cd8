/-
  Joined: G10Sa, F12B, G10Sp, G10Ja.
-/
import Derived.ChangeAlike
import Derived.ChangeKeysEq
import Derived.Laws.CopyRow
import Derived.RegionTactic
import Derived.Test.YtpdfpbbamnhkfaaGreatDoorV10
import Derived.Test.YtpdfpbbamnhkfaaGreatDoorV21
import Derived.Test.YtpdfpbbamnhkfaaGreatDoorV22
import Derived.Test.YtpdfpbbamnhkfaaGreatDoorV26
namespace Go.Proofs.YtpdfpbbamnhkfaaGreatDoor.G10
open Go.RowKit Go.Deep
set_option linter.unusedVariables false
set_option linter.unusedSimpArgs false
def SLst (w : World) (a : Option Addr) (zs : List ByteArray) : Prop :=
  zs = [] ∨ ∃ b off, a = some ⟨b, off, none⟩ ∧ b < w.heap.size ∧ ∀ i, i < zs.length → w.cell? ⟨b, off + i, none⟩ = some (.string (zs.getD i ⟨#[]⟩))
theorem SLst.below {w w' : World} {a : Option Addr} {zs : List ByteArray} (h : SLst w a zs) (hb : Below w.heap.size w w') : SLst w' a zs := by
  rcases h with h | ⟨b, off, h1, h2, h3⟩
  · exact Or.inl h
  · exact Or.inr ⟨b, off, h1, Nat.lt_of_lt_of_le h2 hb.size, fun i hi => by rw [hb.cell (p := ⟨b, off + i, none⟩) h2]; exact h3 i hi⟩
theorem ksame_any (a b : Option Addr) (len ca cb : Nat) (zs : List Int) (w : World) (hl : zs.length = len) (h4 : len ≤ 1048576) (hA : Lst w a zs) (hB : Lst w b zs) :
    Calls Tryz.prog 24 #[.slice a len ca, .slice b len cb] w fun e w' => e = .returned (.bool true) ∧ ∃ n, w' = w.drewN n := by
  have HA := hide hA
  have HB := hide hB
  have Hl := hide hl
  have h5 : (len : Int) ≤ 1048576 := by omega
  have t0 : ((len : Int) != (len : Int)) = false := by simp
  clear hA hB hl
  go_enter Tryz.func24, Tryz.ntmps24
  go_wp2_with fail
  go_loopw [5] (fun vi wr => ∃ (k n : Nat), vi = .int .i64 k ∧ wr = w.drewN n ∧ Hid (k ≤ len)) (fun vi _ => len - (intOf vi).toNat)
  case atStart => exact ⟨0, 0, rfl, rfl, hide (by omega)⟩
  case round =>
    obtain ⟨k, n, rfl, rfl, HK⟩ := hrel
    by_cases hlt : k < len
    · have hlt' : (k : Int) < (len : Int) := by omega
      have hl := Hl.out
      rcases HA.out with hz | ⟨b1, o1, rfl, hb1, hcell1⟩
      · rw [hz] at hl; simp at hl; omega
      rcases HB.out with hz | ⟨b2, o2, rfl, hb2, hcell2⟩
      · rw [hz] at hl; simp at hl; omega
      have hc1 := hcell1 k (by omega)
      have hc2 := hcell2 k (by omega)
      generalize zs.getD k 0 = z at *
      clear hcell1 hcell2 hl
      go_wp2_with fail
      go_quiet (fail)
      go_wp2
      go_roundw
      case rel => exact ⟨k + 1, _, by go_num, rfl, hide (by omega)⟩
      case measure => simp [intOf]; omega
    · have hlt' : ¬ (k : Int) < (len : Int) := by omega
      go_wp2
      go_ret
      exact ⟨rfl, n, rfl⟩
theorem ktexts_any (a b : Option Addr) (len ca cb : Nat) (zs : List ByteArray) (w : World) (hl : zs.length = len) (h4 : len ≤ 1048576) (hA : SLst w a zs) (hB : SLst w b zs) :
    Calls Tryz.prog 38 #[.slice a len ca, .slice b len cb] w fun e w' => e = .returned (.bool true) ∧ ∃ n, w' = w.drewN n := by
  have HA := hide hA
  have HB := hide hB
  have Hl := hide hl
  have h5 : (len : Int) ≤ 1048576 := by omega
  have t0 : ((len : Int) != (len : Int)) = false := by simp
  clear hA hB hl
  go_enter Tryz.func38, Tryz.ntmps38
  go_wp2_with fail
  go_loopw [5] (fun vi wr => ∃ (k n : Nat), vi = .int .i64 k ∧ wr = w.drewN n ∧ Hid (k ≤ len)) (fun vi _ => len - (intOf vi).toNat)
  case atStart => exact ⟨0, 0, rfl, rfl, hide (by omega)⟩
  case round =>
    obtain ⟨k, n, rfl, rfl, HK⟩ := hrel
    by_cases hlt : k < len
    · have hlt' : (k : Int) < (len : Int) := by omega
      have hl := Hl.out
      rcases HA.out with hz | ⟨b1, o1, rfl, hb1, hcell1⟩
      · rw [hz] at hl; simp at hl; omega
      rcases HB.out with hz | ⟨b2, o2, rfl, hb2, hcell2⟩
      · rw [hz] at hl; simp at hl; omega
      have hc1 := hcell1 k (by omega)
      have hc2 := hcell2 k (by omega)
      generalize zs.getD k ⟨#[]⟩ = z at *
      clear hcell1 hcell2 hl
      go_wp2_with fail
      go_quiet (fail)
      go_wp2
      go_roundw
      case rel => exact ⟨k + 1, _, by go_num, rfl, hide (by omega)⟩
      case measure => simp [intOf]; omega
    · have hlt' : ¬ (k : Int) < (len : Int) := by omega
      go_wp2
      go_ret
      exact ⟨rfl, n, rfl⟩
def arw (f : Nat → Value) (z : Value) (n k : Nat) : Array Value := ((List.range n).map fun i => if i < k then f i else z).toArray
theorem arw_size (f : Nat → Value) (z : Value) (n k : Nat) : (arw f z n k).size = n := by simp [arw]
theorem arw_at (f : Nat → Value) (z : Value) (n k j : Nat) (h : j < n) : (arw f z n k)[j]? = some (if j < k then f j else z) := by simp [arw, h]
theorem arw_set (f : Nat → Value) (z : Value) (n k : Nat) (h : k < n) : (arw f z n k).setIfInBounds k (f k) = arw f z n (k + 1) := by
  apply Array.ext_getElem?
  intro j
  rw [Array.getElem?_setIfInBounds]
  by_cases hj : j < n
  · rw [arw_at _ _ _ _ _ hj, arw_at _ _ _ _ _ hj]
    by_cases e : k = j
    · subst e; simp [arw_size, hj]
    · rw [if_neg e]
      by_cases h1 : j < k
      · rw [if_pos h1, if_pos (by omega)]
      · rw [if_neg h1, if_neg (by omega)]
  · rw [if_neg (by rintro rfl; exact hj h)]
    rw [Array.getElem?_eq_none (by rw [arw_size]; omega), Array.getElem?_eq_none (by rw [arw_size]; omega)]
theorem arw_zero (f : Nat → Value) (z : Value) (n : Nat) : arw f z n 0 = Array.replicate n z := by
  apply Array.ext_getElem?
  intro j
  by_cases hj : j < n
  · rw [arw_at _ _ _ _ _ hj]; simp [hj]
  · rw [Array.getElem?_eq_none (by rw [arw_size]; omega), Array.getElem?_eq_none (by simp; omega)]
theorem make_ints (n : Nat) (z : Int) (hz : z = (n : Int)) (hn : n ≤ 100000) (x : World) : (Instr.makeSlice 23 (.int .i64 z) (.int .i64 z)).run Tryz.prog x = .ok (.slice (some ⟨x.heap.size, 0, none⟩) n n) (x.alloc (.cells (Array.replicate n (.int .i64 0)) 3)) := by
  subst hz
  obtain ⟨i0, hi, hz0, hz1, hz2⟩ := info_parts5 info_int
  have h := run_make (P := Tryz.prog) x 23 3 i0 (.int .i64 0) Tryz.underlying23 hi hz0 .i64 .i64 n n (by omega) (Int.le_refl _) (by rw [hz2]; omega) (by omega)
  rw [hz1] at h
  simp only [Int.toNat_natCast, Nat.mul_one] at h
  have e : madeCells (Value.int .i64 0).cells n = Array.replicate n (.int .i64 0) := by
    apply Array.ext (by simp [madeCells])
    intro j h1 h2
    simp [madeCells, Value.cells, Nat.mod_one]
  rw [e] at h
  exact h
theorem info_str : (Tryz.prog.info? 9).map (fun i => (i.zero, i.size, i.bytes)) = some (some (.string ⟨#[]⟩), 1, 16) := by kernel_rfl
theorem make_strs (n : Nat) (hn : n ≤ 100000) (x : World) : (Instr.makeSlice 26 (.int .i64 (n : Int)) (.int .i64 (n : Int))).run Tryz.prog x = .ok (.slice (some ⟨x.heap.size, 0, none⟩) n n) (x.alloc (.cells (Array.replicate n (.string ⟨#[]⟩)) 9)) := by
  obtain ⟨i0, hi, hz0, hz1, hz2⟩ := info_parts5 info_str
  have h := run_make (P := Tryz.prog) x 26 9 i0 (.string ⟨#[]⟩) Tryz.underlying26 hi hz0 .i64 .i64 n n (by omega) (Int.le_refl _) (by rw [hz2]; omega) (by omega)
  rw [hz1] at h
  simp only [Int.toNat_natCast, Nat.mul_one] at h
  have e : madeCells (Value.string ⟨#[]⟩).cells n = Array.replicate n (.string ⟨#[]⟩) := by
    apply Array.ext (by simp [madeCells])
    intro j h1 h2
    simp [madeCells, Value.cells, Nat.mod_one]
  rw [e] at h
  exact h
theorem nan_any (x : Int) (w : World) : Calls Tryz.prog 239 #[.int .i64 x] w fun e w' => e = .returned (.bool false) ∧ w' = w := by
  have h : (x != x) = false := by simp
  go_enter Tryz.func239, Tryz.ntmps239
  go_wp2_with fail
  go_ret
  exact ⟨by simp, rfl⟩
theorem less_any (x y : Int) (w : World) : Calls Tryz.prog 201 #[.int .i64 x, .int .i64 y] w fun e w' => e = .returned (.bool (decide (x < y))) ∧ w' = w := by
  have C := hide (nan_any x)
  go_enter Tryz.func201, Tryz.ntmps201
  go_wp2_with fail
  refine (C.out _).mono ?_
  rintro e wy ⟨rfl, hy⟩
  subst wy
  go_wp2_with fail
  go_ret
  exact ⟨rfl, rfl⟩
def srtB (f : Nat → Int) (n : Nat) : Bool := (List.range (n - 1)).all fun i => decide (f i ≤ f (i + 1))
theorem srt_iff (f : Nat → Int) (n : Nat) : srtB f n = true ↔ ∀ i, i + 1 < n → f i ≤ f (i + 1) := by
  unfold srtB
  rw [List.all_eq_true]
  constructor
  · intro h i hi
    simpa using h i (by simp; omega)
  · intro h i hi
    simp at hi
    simpa using h i (by omega)
set_option maxRecDepth 8000 in
set_option maxHeartbeats 1000000 in
theorem sorted_any (g n : Nat) (f : Nat → Int) (w : World) (h1 : 1 ≤ n) (hn : n ≤ 100000) (hg : g < w.heap.size) (hc : ∀ i, i < n → w.cell? ⟨g, i, none⟩ = some (.int .i64 (f i))) :
    Calls Tryz.prog 166 #[.slice (some ⟨g, 0, none⟩) n n] w fun e w' => e = .returned (.bool (srtB f n)) ∧ ∃ m, w' = w.drewN m := by
  have CL := hide less_any
  have HC := hide hc
  have hn' : (n : Int) ≤ 100000 := by omega
  have hn1 : (1 : Int) ≤ (n : Int) := by omega
  clear hc
  go_enter Tryz.func166, Tryz.ntmps166
  go_wp2_with fail
  go_loopw [3] (fun v wr => ∃ k m : Nat, v = .int .i64 (k : Int) ∧ wr = w.drewN m ∧ Hid (k < n ∧ ∀ i, k ≤ i → i + 1 < n → f i ≤ f (i + 1))) (fun v _ => (intOf v).toNat)
  case atStart => exact ⟨n - 1, 0, congrArg (Value.int .i64) (by omega), rfl, hide ⟨by omega, fun i a b => by omega⟩⟩
  case round =>
    obtain ⟨k, m, rfl, rfl, HV⟩ := hrel
    obtain ⟨k1, k2⟩ := HV.out
    have K2 := hide k2
    clear HV k2
    by_cases hk : k = 0
    · subst hk
      have hd : decide ((0 : Int) < ((0 : Nat) : Int)) = false := by simp
      have E := hide (show srtB f n = true from (srt_iff f n).2 fun i hi => K2.out i (by omega) hi)
      go_wp2_with fail
      go_ret
      exact ⟨by rw [E.out]; rfl, m, rfl⟩
    · obtain ⟨j, hj⟩ : ∃ j, k = j + 1 := ⟨k - 1, by omega⟩
      have HJ := hide hj
      have hk0 : (0 : Int) < (k : Int) := by omega
      have c1 := HC.out k k1
      have c2 := HC.out j (by omega)
      have i1 : (k : Int) < (n : Int) := by omega
      have i2 : (k : Int) - 1 = (j : Int) := by omega
      have i3 : (0 : Int) ≤ (j : Int) := by omega
      have i4 : (j : Int) < (n : Int) := by omega
      have i6 : (0 : Int) ≤ (k : Int) := by omega
      have i7 : IntKind.i64.wrap (j : Int) = (j : Int) := by rw [IntKind.wrap_i64]; omega
      have i5 : IntKind.i64.wrap ((k : Int) - 1) = (j : Int) := by rw [IntKind.wrap_i64]; omega
      clear hk
      by_cases hlt : f k < f j
      · have E := hide (show srtB f n = false by
          cases e : srtB f n with
          | false => rfl
          | true => exact absurd ((srt_iff f n).1 e j (by omega)) (by rw [← hj]; omega))
        have CL2 := hide (fun w => CL.out (f k) (f j) w)
        rw [show decide (f k < f j) = true by simpa using hlt] at CL2
        generalize f k = X at c1 CL2
        generalize f j = Y at c2 CL2
        clear hlt CL HC hj
        go_wp2_with fail
        go_quiet ((go_at_call 201; exact (CL2.out _).mono fun _ _ h => ⟨h.1, _, h.2⟩))
        go_wp2_with fail
        go_ret
        exact ⟨by rw [E.out]; rfl, m + nq, by rw [World.drewN_drewN]⟩
      · have K3 : Hid (∀ i, j ≤ i → i + 1 < n → f i ≤ f (i + 1)) := hide fun i a b => by
          by_cases e : i = j
          · subst e; rw [← hj]; omega
          · exact K2.out i (by omega) b
        have CL2 := hide (fun w => CL.out (f k) (f j) w)
        rw [show decide (f k < f j) = false by simpa using hlt] at CL2
        generalize f k = X at c1 CL2
        generalize f j = Y at c2 CL2
        clear hlt CL hj
        go_wp2_with fail
        go_quiet ((go_at_call 201; exact (CL2.out _).mono fun _ _ h => ⟨h.1, _, h.2⟩))
        go_wp2_with fail
        go_roundw
        case rel => exact ⟨j, _, by first | rfl | exact congrArg (Value.int .i64) (by omega), rfl, hide ⟨by have := HJ.out; omega, K3.out⟩⟩
        case measure => have := HJ.out; simp [intOf]; omega
end Go.Proofs.YtpdfpbbamnhkfaaGreatDoor.G10
namespace Go.Proofs.YtpdfpbbamnhkfaaGreatDoor.F12
open Go.RowKit Go.Deep
set_option linter.unusedVariables false
set_option linter.unusedSimpArgs false
def bls (f : Nat → Bool) (n k : Nat) : Array Value := G10.arw (fun i => .bool (f i)) (.bool false) n k
theorem bls_at (f : Nat → Bool) (n k j : Nat) (h : j < n) : (bls f n k)[j]? = some (.bool (if j < k then f j else false)) := by
  unfold bls
  rw [G10.arw_at _ _ _ _ _ h]
  split <;> rfl
theorem bls_all (f : Nat → Bool) (n j : Nat) (h : j < n) : (bls f n n)[j]? = some (.bool (f j)) := by rw [bls_at f n n j h, if_pos h]
def fst (f : Nat → Bool) (n : Nat) : Option Nat := (List.range n).find? f
theorem fst_none {f : Nat → Bool} {n : Nat} (h : ∀ i, i < n → f i = false) : fst f n = none := by
  unfold fst
  rw [List.find?_eq_none]
  intro i hi
  rw [h i (List.mem_range.1 hi)]; simp
theorem fst_some {f : Nat → Bool} {n k : Nat} (hk : k < n) (h : f k = true) (hj : ∀ i, i < k → f i = false) : fst f n = some k := by
  unfold fst
  rw [List.find?_range_eq_some]
  refine ⟨h, List.mem_range.2 hk, fun j hj' => ?_⟩
  rw [hj j hj']; rfl
def ixI (o : Option Nat) : Int := match o with | some k => (k : Int) | none => -1
theorem ix_any (o : Option Nat) : decide ((0 : Int) ≤ ixI o) = o.isSome := by
  cases o with
  | none => rfl
  | some k => simp [ixI]
theorem any_fst (f : Nat → Bool) (n : Nat) : (fst f n).isSome = (List.range n).any f := by
  unfold fst
  rw [Bool.eq_iff_iff, List.find?_isSome, List.any_eq_true]
set_option maxHeartbeats 1000000 in
theorem index_any (g n c : Nat) (f : Nat → Bool) (w : World) (hn : n ≤ 1000000) (hk : Blk w g (bls f n n) 4) :
    Calls Tryz.prog 120 #[.slice (some ⟨g, 0, none⟩) n c, .bool true] w fun e w' => e = .returned (.int .i64 (ixI (fst f n))) ∧ w' = w := by
  have hn' : (n : Int) ≤ 1000000 := by omega
  have HK := hide hk
  have glt := hk.lt
  clear hk
  go_enter Tryz.func120, Tryz.ntmps120
  go_wp2_with fail
  go_loopw [8] (fun vi wr => ∃ j : Nat, vi = .int .i64 j ∧ Hid (wr = w ∧ j ≤ n ∧ ∀ i, i < j → f i = false)) (fun vi _ => n - (intOf vi).toNat)
  case atStart => exact ⟨0, rfl, hide ⟨rfl, by omega, fun i hi => by omega⟩⟩
  case round =>
    obtain ⟨j, rfl, HV⟩ := hrel
    obtain ⟨hw, hj, hno⟩ := HV.out
    replace hw := hw.symm
    subst hw
    have hj0 : (0 : Int) ≤ (j : Int) := by omega
    have HNO := hide hno
    clear HV hno
    by_cases hlt : j < n
    case neg =>
      have hlt' : ¬ (j : Int) < (n : Int) := by omega
      have E := hide (fst_none (f := f) (n := n) fun i hi => HNO.out i (by omega))
      clear hlt hj
      go_wp2_with fail
      go_ret
      exact ⟨by rw [E.out]; rfl, rfl⟩
    have hlt' : (j : Int) < (n : Int) := by omega
    have c0 := HK.out.cell j
    rw [bls_all f n j hlt] at c0
    cases hf : f j with
    | true =>
      rw [hf] at c0
      have E := hide (fst_some hlt hf HNO.out)
      clear hlt hj hf
      go_wp2_with fail
      go_ret
      exact ⟨by rw [E.out]; rfl, rfl⟩
    | false =>
      rw [hf] at c0
      have HN2 := hide (show ∀ i, i < j + 1 → f i = false from fun i hi => by
        rcases Nat.lt_or_ge i j with h | h
        · exact HNO.out i h
        · rw [show i = j by omega]; exact hf)
      clear hf
      go_wp2_with fail
      go_roundw
      case rel => exact ⟨j + 1, by go_num, hide ⟨by first | rfl | trivial, by omega, HN2.out⟩⟩
      case measure => simp [intOf]; omega
theorem contains_any (g n c : Nat) (f : Nat → Bool) (w : World) (hn : n ≤ 1000000) (hk : Blk w g (bls f n n) 4) :
    Calls Tryz.prog 69 #[.slice (some ⟨g, 0, none⟩) n c, .bool true] w fun e w' => e = .returned (.bool ((List.range n).any f)) ∧ w' = w := by
  have C := hide (index_any g n c f w hn hk)
  have E := hide (show decide ((0 : Int) ≤ ixI (fst f n)) = (List.range n).any f by rw [ix_any, any_fst])
  generalize (List.range n).any f = R at E
  generalize ixI (fst f n) = I at C E
  clear hk
  go_enter Tryz.func69, Tryz.ntmps69
  go_wp2_with fail
  refine C.out.mono ?_
  rintro e w' ⟨rfl, hw'⟩
  replace hw' := hw'.symm
  subst hw'
  go_wp2_with fail
  go_ret
  exact ⟨by rw [← E.out]; rfl, rfl⟩
theorem clo_any (bx g n c z : Nat) (f : Nat → Bool) (w : World) (hz : z < n) (hn : n ≤ 1000000) (hb : Blk w bx #[.slice (some ⟨g, 0, none⟩) n c] 111) (hk : Blk w g (bls f n n) 4) :
    Calls Tryz.prog 68 #[.int .i64 (z : Int), .pointer (some ⟨bx, 0, none⟩)] w fun e w' => e = .returned (.bool (f z)) ∧ w' = w := by
  have c0 := hb.cell 0
  simp at c0
  have c1 := hk.cell z
  rw [bls_all f n z hz] at c1
  have blt := hb.lt
  have glt := hk.lt
  have hz1 : (z : Int) < (n : Int) := by omega
  have hz0 : (0 : Int) ≤ (z : Int) := by omega
  have hn' : (n : Int) ≤ 1000000 := by omega
  generalize f z = R at c1 ⊢
  clear hb hk hz hn
  go_enter Tryz.func68, Tryz.ntmps68
  go_wp2_with fail
  go_ret
  exact ⟨rfl, rfl⟩
set_option maxHeartbeats 1000000 in
theorem indexf_any (a : Option Addr) (l c bx g n cb : Nat) (ps : List Nat) (f : Nat → Bool) (w : World) (hl : ps.length = l) (hl2 : l ≤ 1000000) (hp : ∀ p ∈ ps, p < n) (hn : n ≤ 1000000) (hL : Lst w a (G10.ints ps)) (hb : Blk w bx #[.slice (some ⟨g, 0, none⟩) n cb] 111) (hk : Blk w g (bls f n n) 4) :
    Calls Tryz.prog 119 #[.slice a l c, .func (.func 68) #[] #[.pointer (some ⟨bx, 0, none⟩)]] w fun e w' => e = .returned (.int .i64 (ixI (fst (fun i => f (ps.getD i 0)) l))) ∧ w' = w := by
  have hl' : (l : Int) ≤ 1000000 := by omega
  obtain ⟨R, hR⟩ : ∃ R, ixI (fst (fun i => f (ps.getD i 0)) l) = R := ⟨_, rfl⟩
  rw [hR]
  have HR := hide hR
  have HL := hide hL
  have HN := hide hl
  have CC := hide (fun z hz => clo_any bx g n cb z f w hz hn hb hk)
  have HP := hide (show ∀ i, i < l → ps.getD i 0 < n from fun i hi => by
    rw [List.getD_eq_getElem?_getD, List.getElem?_eq_getElem (by omega)]
    exact hp _ (List.getElem_mem _))
  clear hL hb hk hp hl hR
  go_enter Tryz.func119, Tryz.ntmps119
  go_wp2_with fail
  go_loopw [8] (fun vi wr => ∃ j : Nat, vi = .int .i64 j ∧ Hid (wr = w ∧ j ≤ l ∧ ∀ i, i < j → f (ps.getD i 0) = false)) (fun vi _ => l - (intOf vi).toNat)
  case atStart => exact ⟨0, rfl, hide ⟨rfl, by omega, fun i hi => by omega⟩⟩
  case round =>
    obtain ⟨j, rfl, HV⟩ := hrel
    obtain ⟨hw, hj, hno⟩ := HV.out
    replace hw := hw.symm
    subst hw
    have hj0 : (0 : Int) ≤ (j : Int) := by omega
    have HNO := hide hno
    clear HV hno
    by_cases hlt : j < l
    case neg =>
      have hlt' : ¬ (j : Int) < (l : Int) := by omega
      have E := hide (fst_none (f := fun i => f (ps.getD i 0)) (n := l) fun i hi => HNO.out i (by omega))
      clear hlt hj
      go_wp2_with fail
      go_ret
      exact ⟨by rw [← HR.out, E.out]; rfl, rfl⟩
    have hlt' : (j : Int) < (l : Int) := by omega
    obtain ⟨b, o, rfl, hbl, hcell⟩ : ∃ b o, a = some ⟨b, o, none⟩ ∧ b < w.heap.size ∧ ∀ i, i < (G10.ints ps).length → w.cell? ⟨b, o + i, none⟩ = some (.int .i64 ((G10.ints ps).getD i 0)) := by
      rcases HL.out with hz' | h
      · have : (G10.ints ps).length = l := by unfold G10.ints; rw [List.length_map, HN.out]
        rw [hz'] at this; simp at this; omega
      · exact h
    have c0 := hcell j (by unfold G10.ints; rw [List.length_map, HN.out]; exact hlt)
    rw [G10.ints_at ps j (by rw [HN.out]; exact hlt)] at c0
    have hpj := HP.out j hlt
    obtain ⟨z, hz⟩ : ∃ z, ps.getD j 0 = z := ⟨_, rfl⟩
    rw [hz] at c0 hpj
    have C1 := hide (CC.out z hpj)
    cases hf : f z with
    | true =>
      simp only [hf] at C1
      have E := hide (fst_some (f := fun i => f (ps.getD i 0)) hlt (by simp only [hz]; exact hf) HNO.out)
      clear hlt hj hf hcell hz hpj
      go_wp2_with fail
      refine C1.out.mono ?_
      rintro e w' ⟨rfl, hw'⟩
      replace hw' := hw'.symm
      subst hw'
      go_wp2_with fail
      go_ret
      exact ⟨by rw [← HR.out, E.out]; rfl, rfl⟩
    | false =>
      simp only [hf] at C1
      have HN2 := hide (show ∀ i, i < j + 1 → f (ps.getD i 0) = false from fun i hi => by
        rcases Nat.lt_or_ge i j with h | h
        · exact HNO.out i h
        · rw [show i = j by omega, hz]; exact hf)
      clear hf hcell hz hpj
      go_wp2_with fail
      refine C1.out.mono ?_
      rintro e w' ⟨rfl, hw'⟩
      replace hw' := hw'.symm
      subst hw'
      go_wp2_with fail
      go_roundw
      case rel => exact ⟨j + 1, by go_num, hide ⟨by first | rfl | trivial, by omega, HN2.out⟩⟩
      case measure => simp [intOf]; omega
theorem any_map (ps : List Nat) (f : Nat → Bool) : (List.range ps.length).any (fun i => f (ps.getD i 0)) = ps.any f := by
  rw [Bool.eq_iff_iff, List.any_eq_true, List.any_eq_true]
  constructor
  · rintro ⟨i, hi, h⟩
    have hi := List.mem_range.1 hi
    rw [List.getD_eq_getElem?_getD, List.getElem?_eq_getElem hi] at h
    exact ⟨_, List.getElem_mem hi, h⟩
  · rintro ⟨x, hx, h⟩
    obtain ⟨i, hi, rfl⟩ := List.getElem_of_mem hx
    refine ⟨i, List.mem_range.2 hi, ?_⟩
    rw [List.getD_eq_getElem?_getD, List.getElem?_eq_getElem hi]
    exact h
theorem containsf_any (a : Option Addr) (l c bx g n cb : Nat) (ps : List Nat) (f : Nat → Bool) (w : World) (hl : ps.length = l) (hl2 : l ≤ 1000000) (hp : ∀ p ∈ ps, p < n) (hn : n ≤ 1000000) (hL : Lst w a (G10.ints ps)) (hb : Blk w bx #[.slice (some ⟨g, 0, none⟩) n cb] 111) (hk : Blk w g (bls f n n) 4) :
    Calls Tryz.prog 67 #[.slice a l c, .func (.func 68) #[] #[.pointer (some ⟨bx, 0, none⟩)]] w fun e w' => e = .returned (.bool (ps.any f)) ∧ w' = w := by
  have C := hide (indexf_any a l c bx g n cb ps f w hl hl2 hp hn hL hb hk)
  have E := hide (show decide ((0 : Int) ≤ ixI (fst (fun i => f (ps.getD i 0)) l)) = ps.any f by rw [ix_any, any_fst, ← hl, any_map])
  generalize ps.any f = R at E
  generalize ixI (fst (fun i => f (ps.getD i 0)) l) = I at C E
  clear hL hb hk hp hl
  go_enter Tryz.func67, Tryz.ntmps67
  go_wp2_with fail
  refine C.out.mono ?_
  rintro e w' ⟨rfl, hw'⟩
  replace hw' := hw'.symm
  subst hw'
  go_wp2_with fail
  go_ret
  exact ⟨by rw [← E.out]; rfl, rfl⟩
end Go.Proofs.YtpdfpbbamnhkfaaGreatDoor.F12
namespace Go.Proofs.YtpdfpbbamnhkfaaGreatDoor.G10
open Go.RowKit Go.Deep
set_option linter.unusedVariables false
set_option linter.unusedSimpArgs false
theorem below_d {V a b x : World} (h : Below V.heap.size V a) (hx : Below b.heap.size b x) (e0 : b.os = a.os) (e1 : b.tape = a.tape) (e2 : b.output = a.output) (e3 : b.heap = a.heap) : Below V.heap.size V x :=
  h.trans ⟨hx.os.trans e0, hx.tape.trans e1, hx.output.trans e2, e3 ▸ hx.size, fun k hk => by rw [hx.block k (by rw [e3]; exact Nat.lt_of_lt_of_le hk h.size), e3]⟩
theorem cell_other {w : World} {G H o j : Nat} {v : Value} (h : G ≠ H) : (w.setCell ⟨H, o, none⟩ v).cell? ⟨G, j, none⟩ = w.cell? ⟨G, j, none⟩ := World.cell?_of_block (w := w) (Below.heap_setCell _ _ _ _ h)
theorem srt_mono {f : Nat → Int} {n : Nat} (h : srtB f n = true) : ∀ d i, i + d < n → f i ≤ f (i + d) := by
  intro d
  induction d with
  | zero => intro i _; simp
  | succ d ih =>
    intro i hi
    have h1 := ih i (by omega)
    have h2 := (srt_iff f n).1 h (i + d) (by omega)
    have : i + (d + 1) = i + d + 1 := by omega
    rw [this]; omega
def szV (lg : Bool) : Nat := if lg then 4 else 2
def plc (l : List UInt8) (lg : Bool) (i : Nat) : Nat := if lg then n4 l (4 * i) else 2 * n2 l (2 * i)
def plI (l : List UInt8) (lg : Bool) (i : Nat) : Int := ((plc l lg i : Nat) : Int)
theorem plc_le (l : List UInt8) (lg : Bool) (i : Nat) : plc l lg i ≤ 4294967295 := by
  have h1 := n4_lt l (4 * i)
  have h2 := n2_lt l (2 * i)
  unfold plc
  split <;> omega
def splB (l : List UInt8) (G : Nat) (n : Int) (lg : Bool) : Bool :=
  decide (1 ≤ n ∧ n ≤ 4096 ∧ szV lg * (n.toNat + 1) ≤ l.length) && (srtB (plI l lg) (n.toNat + 1) && decide (plc l lg n.toNat ≤ G))
def splG (l : List UInt8) (g : ByteArray) (lg : Bool) (i : Nat) : ByteArray := g.extract (plc l lg i) (plc l lg (i + 1))
def splV (l : List UInt8) (g : ByteArray) (n : Nat) (lg : Bool) : List ByteArray := (List.range n).map (splG l g lg)
def SpR (w : World) (l : List UInt8) (g : ByteArray) (n : Int) (lg : Bool) (e : Ending) (w' : World) : Prop :=
  if splB l g.size n lg = true then ∃ q, e = .returned (.tuple #[.slice (some ⟨q, 0, none⟩) n.toNat n.toNat, .int .i64 0]) ∧ SLst w' (some ⟨q, 0, none⟩) (splV l g n.toNat lg) ∧ Below w.heap.size w w'
  else e = .returned (.tuple #[.slice none 0 0, .int .i64 100]) ∧ Below w.heap.size w w'
theorem spl_no {l : List UInt8} {G : Nat} {n : Int} {lg : Bool} (h : ¬ (1 ≤ n ∧ n ≤ 4096 ∧ szV lg * (n.toNat + 1) ≤ l.length)) : splB l G n lg = false := by
  unfold splB; rw [decide_eq_false h]; rfl
set_option maxHeartbeats 1000000 in
theorem spl_bad_t (l g : ByteArray) (n : Int) (w : World) (hl : l.size ≤ 1000000) (hn0 : -9223372036854775808 ≤ n) (hn1 : n ≤ 9223372036854775807) (h : ¬ (1 ≤ n ∧ n ≤ 4096 ∧ 4 * (n.toNat + 1) ≤ l.size)) :
    Calls Tryz.prog 128 #[.string l, .string g, .int .i64 n, .bool true] w fun e w' => e = .returned (.tuple #[.slice none 0 0, .int .i64 100]) ∧ w' = w := by
  have hl' : (l.size : Int) ≤ 1000000 := by omega
  by_cases h1 : n < 1
  · have t1 : decide (n < 1) = true := by simpa using h1
    clear h
    go_enter Tryz.func128, Tryz.ntmps128
    go_wp2_with fail
    go_ret2
    exact ⟨rfl, rfl⟩
  have t1 : decide (n < 1) = false := by simpa using h1
  by_cases h2 : 4096 < n
  · have t2 : decide (4096 < n) = true := by simpa using h2
    clear h
    go_enter Tryz.func128, Tryz.ntmps128
    go_wp2_with fail
    go_ret2
    exact ⟨rfl, rfl⟩
  have t2 : decide (4096 < n) = false := by simpa using h2
  have h3 : (l.size : Int) < 4 * (n + 1) := by omega
  have t3 : decide ((l.size : Int) < 4 * (n + 1)) = true := by simpa using h3
  have b1 : 1 ≤ n := by omega
  have b2 : n ≤ 4096 := by omega
  clear h h1 h2
  go_enter Tryz.func128, Tryz.ntmps128
  go_wp2_with fail
  go_ret2
  exact ⟨rfl, rfl⟩
set_option maxHeartbeats 1000000 in
theorem spl_bad_f (l g : ByteArray) (n : Int) (w : World) (hl : l.size ≤ 1000000) (hn0 : -9223372036854775808 ≤ n) (hn1 : n ≤ 9223372036854775807) (h : ¬ (1 ≤ n ∧ n ≤ 4096 ∧ 2 * (n.toNat + 1) ≤ l.size)) :
    Calls Tryz.prog 128 #[.string l, .string g, .int .i64 n, .bool false] w fun e w' => e = .returned (.tuple #[.slice none 0 0, .int .i64 100]) ∧ w' = w := by
  have hl' : (l.size : Int) ≤ 1000000 := by omega
  by_cases h1 : n < 1
  · have t1 : decide (n < 1) = true := by simpa using h1
    clear h
    go_enter Tryz.func128, Tryz.ntmps128
    go_wp2_with fail
    go_ret2
    exact ⟨rfl, rfl⟩
  have t1 : decide (n < 1) = false := by simpa using h1
  by_cases h2 : 4096 < n
  · have t2 : decide (4096 < n) = true := by simpa using h2
    clear h
    go_enter Tryz.func128, Tryz.ntmps128
    go_wp2_with fail
    go_ret2
    exact ⟨rfl, rfl⟩
  have t2 : decide (4096 < n) = false := by simpa using h2
  have h3 : (l.size : Int) < 2 * (n + 1) := by omega
  have t3 : decide ((l.size : Int) < 2 * (n + 1)) = true := by simpa using h3
  have b1 : 1 ≤ n := by omega
  have b2 : n ≤ 4096 := by omega
  clear h h1 h2
  go_enter Tryz.func128, Tryz.ntmps128
  go_wp2_with fail
  go_ret2
  exact ⟨rfl, rfl⟩
set_option maxRecDepth 8000 in
set_option maxHeartbeats 4000000 in
theorem spl_t (l g : ByteArray) (n : Nat) (w : World) (hl : l.size ≤ 1000000) (hg : g.size ≤ 1000000) (h1 : 1 ≤ n) (h2 : n ≤ 4096) (h3 : 4 * (n + 1) ≤ l.size) :
    Calls Tryz.prog 128 #[.string l, .string g, .int .i64 (n : Int), .bool true] w (SpR w l.data.toList g (n : Int) true) := by
  have hl' : (l.size : Int) ≤ 1000000 := by omega
  have hg' : (g.size : Int) ≤ 1000000 := by omega
  have t1 : decide ((n : Int) < 1) = false := by simp; omega
  have t2 : decide (4096 < (n : Int)) = false := by simp; omega
  have t3 : decide ((l.size : Int) < 4 * ((n : Int) + 1)) = false := by simp; omega
  have b1 : (1 : Int) ≤ (n : Int) := by omega
  have b2 : (n : Int) ≤ 4096 := by omega
  have HF := hide (And.intro hl (And.intro hg (And.intro h1 (And.intro h2 h3))))
  have MK := make_ints (n + 1) ((n : Int) + 1) (by omega) (by omega)
  have hZ : Array.replicate (n + 1) (Value.int .i64 0) = arw (fun i => .int .i64 (plI l.data.toList true i)) (.int .i64 0) (n + 1) 0 := (arw_zero _ _ _).symm
  rw [hZ] at MK
  have HSB : Hid (splB l.data.toList g.size (n : Int) true = (srtB (plI l.data.toList true) (n + 1) && decide (plc l.data.toList true n ≤ g.size))) := hide (by
    unfold splB
    rw [Int.toNat_natCast, decide_eq_true (show 1 ≤ (n : Int) ∧ (n : Int) ≤ 4096 ∧ szV true * (n + 1) ≤ l.data.toList.length from ⟨b1, b2, by rw [← Lib.size_eq]; exact h3⟩)]
    rfl)
  have HPF : Hid (∀ k, k < n + 1 → 1 * numV (l.extract (4 * k) (4 * k + 4)).data.toList = plc l.data.toList true k) := hide fun k hk => by
    rw [ext4 l _ (by omega)]
    unfold plc
    simp
  have HPL := hide (plc_le l.data.toList true)
  generalize hpf : plI l.data.toList true = pf at MK HSB
  have HPI := hide hpf
  generalize hA0 : arw (fun i => .int .i64 (pf i)) (.int .i64 0) (n + 1) 0 = Z at MK
  have HZ := hide hA0
  have hb0 : Below w.heap.size w (w.alloc (.cells Z 3)) := (Below.refl _ _).alloc (Nat.le_refl _) _
  have HB0 := hide hb0
  have HK0 := hide (Blk.new w Z 3)
  clear hl hg h1 h2 h3 hZ hpf hA0 hb0
  go_enter Tryz.func128, Tryz.ntmps128
  go_wp2_with fail
  generalize hG : w.heap.size = G at HB0 HK0 ⊢
  have HG := hide hG
  clear hG
  go_loopw [37] (fun v wr => ∃ k : Nat, v = .int .i64 (k : Int) ∧ Hid (k ≤ n + 1 ∧ Blk wr G (arw (fun i => .int .i64 (pf i)) (.int .i64 0) (n + 1) k) 3 ∧ Below G w wr)) (fun v _ => n + 1 - (intOf v).toNat)
  case atStart => exact ⟨0, rfl, hide ⟨by omega, by rw [HZ.out]; exact HK0.out, HB0.out⟩⟩
  case round =>
    obtain ⟨k, rfl, HV⟩ := hrel
    obtain ⟨k1, k2, k3⟩ := HV.out
    have hk0 : (0 : Int) ≤ (k : Int) := by omega
    have K3 := hide k3
    have hlt := k2.lt
    clear HV HK0 HB0
    by_cases hk : k < n + 1
    · have hk' : (k : Int) < (n : Int) + 1 := by omega
      have hf := HF.out
      have c0 : wr.cell? ⟨G, k, none⟩ = some (.int .i64 0) := by rw [k2.cell k, arw_at _ _ _ _ _ hk, if_neg (by omega)]
      have f0 := k2.frozen k
      have K2 : Hid (Blk (wr.setCell ⟨G, k, none⟩ (.int .i64 (pf k))) G (arw (fun i => .int .i64 (pf i)) (.int .i64 0) (n + 1) (k + 1)) 3) := hide (by
        have := Blk.set k2 k (.int .i64 (pf k))
        rw [show (Value.int .i64 (pf k)) = (fun i => Value.int .i64 (pf i)) k from rfl, arw_set _ _ _ _ hk] at this
        exact this)
      obtain ⟨A, hA⟩ : ∃ A : Int, 4 * (k : Int) = A := ⟨_, rfl⟩
      obtain ⟨B, hB⟩ : ∃ B : Int, 4 * ((k : Int) + 1) = B := ⟨_, rfl⟩
      have m1 : (0 : Int) ≤ A := by omega
      have m2 : A ≤ B := by omega
      have m3 : B ≤ (l.size : Int) := by omega
      have m4 : A.toNat = 4 * k := by omega
      have m5 : B.toNat = 4 * k + 4 := by omega
      have CN := hide (fun w => num_any (l.extract (4 * k) (4 * k + 4)) w (by rw [ext_size l _ 4 (by omega)]; omega))
      have hpk : (pf k) = ((plc l.data.toList true k : Nat) : Int) := by rw [← HPI.out]; rfl
      have HP := hide (HPF.out k hk)
      have hb := HPL.out k
      have HQ : Hid ((1 : Int) * ((numV (l.extract (4 * k) (4 * k + 4)).data.toList : Nat) : Int) = pf k) := hide (by rw [hpk, ← HP.out]; simp)
      have hb2 : ((numV (l.extract (4 * k) (4 * k + 4)).data.toList : Nat) : Int) ≤ 4294967295 := by have := HP.out; omega
      have hb3 : (0 : Int) ≤ ((numV (l.extract (4 * k) (4 * k + 4)).data.toList : Nat) : Int) := by omega
      generalize ((numV (l.extract (4 * k) (4 * k + 4)).data.toList : Nat) : Int) = Y at CN HQ hb2 hb3
      clear hf k2 k3 hpk HP hb
      go_wp2_with fail
      refine (CN.out _).mono ?_
      rintro e wy ⟨rfl, hy⟩
      subst wy
      have hq := HQ.out
      go_wp2_with fail
      go_roundw
      case rel => exact ⟨k + 1, by go_num, hide ⟨by omega, K2.out, K3.out.setCell (p := ⟨G, k, none⟩) (Nat.le_refl _) _⟩⟩
      case measure => simp [intOf]; omega
    · obtain rfl : k = n + 1 := by omega
      have hk' : ¬ ((n + 1 : Nat) : Int) < (n : Int) + 1 := by omega
      have hf := HF.out
      have hcell : ∀ i, i < n + 1 → wr.cell? ⟨G, i, none⟩ = some (.int .i64 (pf i)) := fun i hi => by rw [k2.cell i, arw_at _ _ _ _ _ hi, if_pos hi]
      have CS := hide (sorted_any G (n + 1) pf wr (by omega) (by omega) hlt hcell)
      have HCL := hide hcell
      clear k2 k3 hk hcell
      go_wp2_with fail
      refine CS.out.mono ?_
      rintro e wy ⟨rfl, m, hw⟩
      subst wy
      cases hsr : srtB pf (n + 1)
      case false =>
        have E := hide (show splB l.data.toList g.size (n : Int) true = false by rw [HSB.out, hsr]; rfl)
        go_wp2_with fail
        go_ret2
        unfold SpR
        rw [E.out]
        exact ⟨rfl, by rw [HG.out]; exact below_drewN K3.out m⟩
      have HSR := hide hsr
      have c0 := HCL.out n (by omega)
      have n0 : (0 : Int) ≤ (n : Int) := by omega
      have n1 : (n : Int) < (n : Int) + 1 := by omega
      have hpn : pf n = ((plc l.data.toList true n : Nat) : Int) := by rw [← HPI.out]; rfl
      by_cases hle : plc l.data.toList true n ≤ g.size
      case neg =>
        have E := hide (show splB l.data.toList g.size (n : Int) true = false by rw [HSB.out, decide_eq_false hle, Bool.and_false])
        have hq : (g.size : Int) < pf n := by omega
        have hq' : decide ((g.size : Int) < pf n) = true := by simpa using hq
        generalize pf n = X at c0 hq hq'
        clear hpn hsr
        go_wp2_with fail
        go_ret2
        unfold SpR
        rw [E.out]
        exact ⟨rfl, by rw [HG.out]; exact below_drewN K3.out m⟩
      have E := hide (show splB l.data.toList g.size (n : Int) true = true by rw [HSB.out, hsr, decide_eq_true hle]; rfl)
      have hq : ¬ (g.size : Int) < pf n := by omega
      have hq' : decide ((g.size : Int) < pf n) = false := by simpa using hq
      have MS := make_strs n (by omega)
      rw [show Array.replicate n (Value.string ⟨#[]⟩) = arw (fun i => .string (splG l.data.toList g true i)) (.string ⟨#[]⟩) n 0 from (arw_zero _ _ _).symm] at MS
      generalize hA0 : arw (fun i => .string (splG l.data.toList g true i)) (.string ⟨#[]⟩) n 0 = Z2 at MS
      have HZ2 := hide hA0
      have HQN := hide (show pf n ≤ (g.size : Int) by omega)
      generalize hX : pf n = X at c0 hq hq'
      clear hpn hsr hX hA0 MK
      go_wp2_with fail
      clear c0 hq hq' MS
      have HV0 : Hid (Below G w (wr.drewN m)) := hide (below_drewN K3.out m)
      have HC0 : Hid (∀ i, i < n + 1 → (wr.drewN m).cell? ⟨G, i, none⟩ = some (.int .i64 (pf i))) := hide HCL.out
      have hGV : G < (wr.drewN m).heap.size := hlt
      have e0 : (wr.drewN m).heap.size = wr.heap.size := rfl
      generalize hVV : wr.drewN m = V at HV0 HC0 hGV e0 ⊢
      rw [← e0]
      have hb1 : Below V.heap.size V (V.alloc (.cells Z2 9)) := (Below.refl _ _).alloc (Nat.le_refl _) _
      have HB1 := hide hb1
      have HK1 := hide (Blk.new V Z2 9)
      clear e0 hVV hb1 HCL K3 CS
      generalize hHV : V.heap.size = H at HB1 HK1 hGV ⊢
      have HH := hide hHV
      clear hHV
      go_loopw [72] (fun v wr => ∃ k : Nat, v = .int .i64 (k : Int) ∧ Hid (k ≤ n ∧ Blk wr H (arw (fun i => .string (splG l.data.toList g true i)) (.string ⟨#[]⟩) n k) 9 ∧ Below H V wr)) (fun v _ => n - (intOf v).toNat)
      case atStart => exact ⟨0, rfl, hide ⟨by omega, by rw [HZ2.out]; exact HK1.out, HB1.out⟩⟩
      case round =>
        obtain ⟨k, rfl, HV⟩ := hrel
        obtain ⟨k1, k2, k3⟩ := HV.out
        have hk0 : (0 : Int) ≤ (k : Int) := by omega
        have K3 := hide k3
        have K2 := hide k2
        have hlt2 := k2.lt
        clear HV HK1 HB1
        by_cases hk : k < n
        · have hkn : (k : Int) < (n : Int) := by omega
          have hk1 : (k : Int) < (n : Int) + 1 := by omega
          have hk2 : (k : Int) + 1 < (n : Int) + 1 := by omega
          have hk3 : (0 : Int) ≤ (k : Int) + 1 := by omega
          have hk4 : ((k : Int) + 1).toNat = k + 1 := by omega
          have hk5 : IntKind.i64.wrap ((k : Int) + 1) = (k : Int) + 1 := by rw [IntKind.wrap_i64]; omega
          have hf := HF.out
          have hmk := srt_mono HSR.out 1 k (by omega)
          have hmn := srt_mono HSR.out (n - (k + 1)) (k + 1) (by omega)
          rw [show k + 1 + (n - (k + 1)) = n by omega] at hmn
          have hgn := HQN.out
          have hX : pf k = ((plc l.data.toList true k : Nat) : Int) := by rw [← HPI.out]; rfl
          have hY : pf (k + 1) = ((plc l.data.toList true (k + 1) : Nat) : Int) := by rw [← HPI.out]; rfl
          have CC := hide (fun w => clone_any (splG l.data.toList g true k) w (by unfold splG; rw [ByteArray.size_extract]; omega))
          have HGE : Hid (g.extract (plc l.data.toList true k) (plc l.data.toList true (k + 1)) = splG l.data.toList g true k) := hide rfl
          have p1 := HC0.out k (by omega)
          have p2 := HC0.out (k + 1) (by omega)
          rw [← k3.cell (p := ⟨G, k, none⟩) hGV] at p1
          rw [← k3.cell (p := ⟨G, k + 1, none⟩) hGV] at p2
          have y1 : pf k ≤ pf (k + 1) := hmk
          have y2 : (0 : Int) ≤ pf k := by omega
          have y3 : pf (k + 1) ≤ (g.size : Int) := by omega
          have y4 : (pf k).toNat = plc l.data.toList true k := by omega
          have y5 : (pf (k + 1)).toNat = plc l.data.toList true (k + 1) := by omega
          have y6 : (0 : Int) ≤ pf (k + 1) := by omega
          have K4 : Hid (Blk wr H (arw (fun i => .string (splG l.data.toList g true i)) (.string ⟨#[]⟩) n k) 9 ∧ k < n) := hide ⟨k2, hk⟩
          generalize pf k = X at p1 y1 y2 y4
          generalize pf (k + 1) = Y at p2 y1 y3 y5 y6
          generalize plc l.data.toList true k = PA at y4 HGE
          generalize plc l.data.toList true (k + 1) = PB at y5 HGE
          have hge := HGE.out
          have hne : G ≠ H := by omega
          have KS : Hid (∀ x, Below wr.heap.size wr x → (x.cell? ⟨G, k, none⟩ = some (.int .i64 X) ∧ x.cell? ⟨G, k + 1, none⟩ = some (.int .i64 Y)) ∧ x.cell? ⟨H, k, none⟩ = some (.string ⟨#[]⟩) ∧ x.frozen? ⟨H, k, none⟩ = false) := hide fun x hx => by
            have hk2' := K4.out.1.below hx
            refine ⟨⟨?_, ?_⟩, ?_, hk2'.frozen k⟩
            · rw [hx.cell (p := ⟨G, k, none⟩) (show G < wr.heap.size by omega)]; exact p1
            · rw [hx.cell (p := ⟨G, k + 1, none⟩) (show G < wr.heap.size by omega)]; exact p2
            · rw [hk2'.cell k, arw_at _ _ _ _ _ hk, if_neg (by omega)]
          have HX : Hid (Below wr.heap.size wr wr) := hide (Below.refl _ _)
          clear hf hmk hmn hgn hX hY k2 k3 HC0
          go_wp2_with fail
          go_region_held3 (fun x => x.cell? ⟨G, k, none⟩ = some (.int .i64 X) ∧ x.cell? ⟨G, k + 1, none⟩ = some (.int .i64 Y)) (first | exact (KS.out _ (below_d HX.out (Below.refl _ _) rfl rfl rfl rfl)).1 | exact ⟨(cell_other hne).trans x0, (cell_other hne).trans x1⟩ | go_keep) ((go_at_call 135; refine (CC.out _).mono ?_; rintro e wy ⟨rfl, hy⟩; replace HX := hide (below_d HX.out hy rfl rfl rfl rfl); clear hy; obtain ⟨⟨x0, x1⟩, x2, x3⟩ := KS.out _ HX.out))
          have K5 : Hid (Blk (wy.setCell ⟨H, k, none⟩ (.string (splG l.data.toList g true k))) H (arw (fun i => .string (splG l.data.toList g true i)) (.string ⟨#[]⟩) n (k + 1)) 9) := hide (by
            have := Blk.set (K4.out.1.below HX.out) k (.string (splG l.data.toList g true k))
            rw [show (Value.string (splG l.data.toList g true k)) = (fun i => Value.string (splG l.data.toList g true i)) k from rfl, arw_set _ _ _ _ hk] at this
            exact this)
          have K6 : Hid (Below H V (wy.setCell ⟨H, k, none⟩ (.string (splG l.data.toList g true k)))) := hide ((K3.out.trans (HX.out.mono (by omega))).setCell (p := ⟨H, k, none⟩) (Nat.le_refl _) _)
          go_wp2_with fail
          go_roundw
          case rel => exact ⟨k + 1, by go_num, hide ⟨by omega, K5.out, K6.out⟩⟩
          case measure => simp [intOf]; omega
        · obtain rfl : k = n := by omega
          have hk' : ¬ (k : Int) < (k : Int) := by omega
          have HS : Hid (SLst wr (some ⟨H, 0, none⟩) (splV l.data.toList g k true)) := hide (Or.inr ⟨H, 0, rfl, hlt2, fun i hi => by
            have hi' : i < k := by simpa [splV] using hi
            rw [Nat.zero_add, k2.cell i, arw_at _ _ _ _ _ hi', if_pos hi']
            simp [splV, hi', List.getD_eq_getElem?_getD]⟩)
          clear k2 k3 hk
          go_wp2_with fail
          go_ret2
          unfold SpR
          rw [E.out, Int.toNat_natCast]
          refine ⟨H, rfl, HS.out, ?_⟩
          rw [HG.out]
          exact HV0.out.trans (K3.out.mono (by omega))
set_option maxRecDepth 8000 in
set_option maxHeartbeats 4000000 in
theorem spl_f (l g : ByteArray) (n : Nat) (w : World) (hl : l.size ≤ 1000000) (hg : g.size ≤ 1000000) (h1 : 1 ≤ n) (h2 : n ≤ 4096) (h3 : 2 * (n + 1) ≤ l.size) :
    Calls Tryz.prog 128 #[.string l, .string g, .int .i64 (n : Int), .bool false] w (SpR w l.data.toList g (n : Int) false) := by
  have hl' : (l.size : Int) ≤ 1000000 := by omega
  have hg' : (g.size : Int) ≤ 1000000 := by omega
  have t1 : decide ((n : Int) < 1) = false := by simp; omega
  have t2 : decide (4096 < (n : Int)) = false := by simp; omega
  have t3 : decide ((l.size : Int) < 2 * ((n : Int) + 1)) = false := by simp; omega
  have b1 : (1 : Int) ≤ (n : Int) := by omega
  have b2 : (n : Int) ≤ 4096 := by omega
  have HF := hide (And.intro hl (And.intro hg (And.intro h1 (And.intro h2 h3))))
  have MK := make_ints (n + 1) ((n : Int) + 1) (by omega) (by omega)
  have hZ : Array.replicate (n + 1) (Value.int .i64 0) = arw (fun i => .int .i64 (plI l.data.toList false i)) (.int .i64 0) (n + 1) 0 := (arw_zero _ _ _).symm
  rw [hZ] at MK
  have HSB : Hid (splB l.data.toList g.size (n : Int) false = (srtB (plI l.data.toList false) (n + 1) && decide (plc l.data.toList false n ≤ g.size))) := hide (by
    unfold splB
    rw [Int.toNat_natCast, decide_eq_true (show 1 ≤ (n : Int) ∧ (n : Int) ≤ 4096 ∧ szV false * (n + 1) ≤ l.data.toList.length from ⟨b1, b2, by rw [← Lib.size_eq]; exact h3⟩)]
    rfl)
  have HPF : Hid (∀ k, k < n + 1 → 2 * numV (l.extract (2 * k) (2 * k + 2)).data.toList = plc l.data.toList false k) := hide fun k hk => by
    rw [ext2 l _ (by omega)]
    unfold plc
    simp
  have HPL := hide (plc_le l.data.toList false)
  generalize hpf : plI l.data.toList false = pf at MK HSB
  have HPI := hide hpf
  generalize hA0 : arw (fun i => .int .i64 (pf i)) (.int .i64 0) (n + 1) 0 = Z at MK
  have HZ := hide hA0
  have hb0 : Below w.heap.size w (w.alloc (.cells Z 3)) := (Below.refl _ _).alloc (Nat.le_refl _) _
  have HB0 := hide hb0
  have HK0 := hide (Blk.new w Z 3)
  clear hl hg h1 h2 h3 hZ hpf hA0 hb0
  go_enter Tryz.func128, Tryz.ntmps128
  go_wp2_with fail
  generalize hG : w.heap.size = G at HB0 HK0 ⊢
  have HG := hide hG
  clear hG
  go_loopw [37] (fun v wr => ∃ k : Nat, v = .int .i64 (k : Int) ∧ Hid (k ≤ n + 1 ∧ Blk wr G (arw (fun i => .int .i64 (pf i)) (.int .i64 0) (n + 1) k) 3 ∧ Below G w wr)) (fun v _ => n + 1 - (intOf v).toNat)
  case atStart => exact ⟨0, rfl, hide ⟨by omega, by rw [HZ.out]; exact HK0.out, HB0.out⟩⟩
  case round =>
    obtain ⟨k, rfl, HV⟩ := hrel
    obtain ⟨k1, k2, k3⟩ := HV.out
    have hk0 : (0 : Int) ≤ (k : Int) := by omega
    have K3 := hide k3
    have hlt := k2.lt
    clear HV HK0 HB0
    by_cases hk : k < n + 1
    · have hk' : (k : Int) < (n : Int) + 1 := by omega
      have hf := HF.out
      have c0 : wr.cell? ⟨G, k, none⟩ = some (.int .i64 0) := by rw [k2.cell k, arw_at _ _ _ _ _ hk, if_neg (by omega)]
      have f0 := k2.frozen k
      have K2 : Hid (Blk (wr.setCell ⟨G, k, none⟩ (.int .i64 (pf k))) G (arw (fun i => .int .i64 (pf i)) (.int .i64 0) (n + 1) (k + 1)) 3) := hide (by
        have := Blk.set k2 k (.int .i64 (pf k))
        rw [show (Value.int .i64 (pf k)) = (fun i => Value.int .i64 (pf i)) k from rfl, arw_set _ _ _ _ hk] at this
        exact this)
      obtain ⟨A, hA⟩ : ∃ A : Int, 2 * (k : Int) = A := ⟨_, rfl⟩
      obtain ⟨B, hB⟩ : ∃ B : Int, 2 * ((k : Int) + 1) = B := ⟨_, rfl⟩
      have m1 : (0 : Int) ≤ A := by omega
      have m2 : A ≤ B := by omega
      have m3 : B ≤ (l.size : Int) := by omega
      have m4 : A.toNat = 2 * k := by omega
      have m5 : B.toNat = 2 * k + 2 := by omega
      have CN := hide (fun w => num_any (l.extract (2 * k) (2 * k + 2)) w (by rw [ext_size l _ 2 (by omega)]; omega))
      have hpk : (pf k) = ((plc l.data.toList false k : Nat) : Int) := by rw [← HPI.out]; rfl
      have HP := hide (HPF.out k hk)
      have hb := HPL.out k
      have HQ : Hid ((2 : Int) * ((numV (l.extract (2 * k) (2 * k + 2)).data.toList : Nat) : Int) = pf k) := hide (by rw [hpk, ← HP.out]; simp)
      have hb2 : ((numV (l.extract (2 * k) (2 * k + 2)).data.toList : Nat) : Int) ≤ 4294967295 := by have := HP.out; omega
      have hb3 : (0 : Int) ≤ ((numV (l.extract (2 * k) (2 * k + 2)).data.toList : Nat) : Int) := by omega
      generalize ((numV (l.extract (2 * k) (2 * k + 2)).data.toList : Nat) : Int) = Y at CN HQ hb2 hb3
      clear hf k2 k3 hpk HP hb
      go_wp2_with fail
      refine (CN.out _).mono ?_
      rintro e wy ⟨rfl, hy⟩
      subst wy
      have hq := HQ.out
      go_wp2_with fail
      go_roundw
      case rel => exact ⟨k + 1, by go_num, hide ⟨by omega, K2.out, K3.out.setCell (p := ⟨G, k, none⟩) (Nat.le_refl _) _⟩⟩
      case measure => simp [intOf]; omega
    · obtain rfl : k = n + 1 := by omega
      have hk' : ¬ ((n + 1 : Nat) : Int) < (n : Int) + 1 := by omega
      have hf := HF.out
      have hcell : ∀ i, i < n + 1 → wr.cell? ⟨G, i, none⟩ = some (.int .i64 (pf i)) := fun i hi => by rw [k2.cell i, arw_at _ _ _ _ _ hi, if_pos hi]
      have CS := hide (sorted_any G (n + 1) pf wr (by omega) (by omega) hlt hcell)
      have HCL := hide hcell
      clear k2 k3 hk hcell
      go_wp2_with fail
      refine CS.out.mono ?_
      rintro e wy ⟨rfl, m, hw⟩
      subst wy
      cases hsr : srtB pf (n + 1)
      case false =>
        have E := hide (show splB l.data.toList g.size (n : Int) false = false by rw [HSB.out, hsr]; rfl)
        go_wp2_with fail
        go_ret2
        unfold SpR
        rw [E.out]
        exact ⟨rfl, by rw [HG.out]; exact below_drewN K3.out m⟩
      have HSR := hide hsr
      have c0 := HCL.out n (by omega)
      have n0 : (0 : Int) ≤ (n : Int) := by omega
      have n1 : (n : Int) < (n : Int) + 1 := by omega
      have hpn : pf n = ((plc l.data.toList false n : Nat) : Int) := by rw [← HPI.out]; rfl
      by_cases hle : plc l.data.toList false n ≤ g.size
      case neg =>
        have E := hide (show splB l.data.toList g.size (n : Int) false = false by rw [HSB.out, decide_eq_false hle, Bool.and_false])
        have hq : (g.size : Int) < pf n := by omega
        have hq' : decide ((g.size : Int) < pf n) = true := by simpa using hq
        generalize pf n = X at c0 hq hq'
        clear hpn hsr
        go_wp2_with fail
        go_ret2
        unfold SpR
        rw [E.out]
        exact ⟨rfl, by rw [HG.out]; exact below_drewN K3.out m⟩
      have E := hide (show splB l.data.toList g.size (n : Int) false = true by rw [HSB.out, hsr, decide_eq_true hle]; rfl)
      have hq : ¬ (g.size : Int) < pf n := by omega
      have hq' : decide ((g.size : Int) < pf n) = false := by simpa using hq
      have MS := make_strs n (by omega)
      rw [show Array.replicate n (Value.string ⟨#[]⟩) = arw (fun i => .string (splG l.data.toList g false i)) (.string ⟨#[]⟩) n 0 from (arw_zero _ _ _).symm] at MS
      generalize hA0 : arw (fun i => .string (splG l.data.toList g false i)) (.string ⟨#[]⟩) n 0 = Z2 at MS
      have HZ2 := hide hA0
      have HQN := hide (show pf n ≤ (g.size : Int) by omega)
      generalize hX : pf n = X at c0 hq hq'
      clear hpn hsr hX hA0 MK
      go_wp2_with fail
      clear c0 hq hq' MS
      have HV0 : Hid (Below G w (wr.drewN m)) := hide (below_drewN K3.out m)
      have HC0 : Hid (∀ i, i < n + 1 → (wr.drewN m).cell? ⟨G, i, none⟩ = some (.int .i64 (pf i))) := hide HCL.out
      have hGV : G < (wr.drewN m).heap.size := hlt
      have e0 : (wr.drewN m).heap.size = wr.heap.size := rfl
      generalize hVV : wr.drewN m = V at HV0 HC0 hGV e0 ⊢
      rw [← e0]
      have hb1 : Below V.heap.size V (V.alloc (.cells Z2 9)) := (Below.refl _ _).alloc (Nat.le_refl _) _
      have HB1 := hide hb1
      have HK1 := hide (Blk.new V Z2 9)
      clear e0 hVV hb1 HCL K3 CS
      generalize hHV : V.heap.size = H at HB1 HK1 hGV ⊢
      have HH := hide hHV
      clear hHV
      go_loopw [72] (fun v wr => ∃ k : Nat, v = .int .i64 (k : Int) ∧ Hid (k ≤ n ∧ Blk wr H (arw (fun i => .string (splG l.data.toList g false i)) (.string ⟨#[]⟩) n k) 9 ∧ Below H V wr)) (fun v _ => n - (intOf v).toNat)
      case atStart => exact ⟨0, rfl, hide ⟨by omega, by rw [HZ2.out]; exact HK1.out, HB1.out⟩⟩
      case round =>
        obtain ⟨k, rfl, HV⟩ := hrel
        obtain ⟨k1, k2, k3⟩ := HV.out
        have hk0 : (0 : Int) ≤ (k : Int) := by omega
        have K3 := hide k3
        have K2 := hide k2
        have hlt2 := k2.lt
        clear HV HK1 HB1
        by_cases hk : k < n
        · have hkn : (k : Int) < (n : Int) := by omega
          have hk1 : (k : Int) < (n : Int) + 1 := by omega
          have hk2 : (k : Int) + 1 < (n : Int) + 1 := by omega
          have hk3 : (0 : Int) ≤ (k : Int) + 1 := by omega
          have hk4 : ((k : Int) + 1).toNat = k + 1 := by omega
          have hk5 : IntKind.i64.wrap ((k : Int) + 1) = (k : Int) + 1 := by rw [IntKind.wrap_i64]; omega
          have hf := HF.out
          have hmk := srt_mono HSR.out 1 k (by omega)
          have hmn := srt_mono HSR.out (n - (k + 1)) (k + 1) (by omega)
          rw [show k + 1 + (n - (k + 1)) = n by omega] at hmn
          have hgn := HQN.out
          have hX : pf k = ((plc l.data.toList false k : Nat) : Int) := by rw [← HPI.out]; rfl
          have hY : pf (k + 1) = ((plc l.data.toList false (k + 1) : Nat) : Int) := by rw [← HPI.out]; rfl
          have CC := hide (fun w => clone_any (splG l.data.toList g false k) w (by unfold splG; rw [ByteArray.size_extract]; omega))
          have HGE : Hid (g.extract (plc l.data.toList false k) (plc l.data.toList false (k + 1)) = splG l.data.toList g false k) := hide rfl
          have p1 := HC0.out k (by omega)
          have p2 := HC0.out (k + 1) (by omega)
          rw [← k3.cell (p := ⟨G, k, none⟩) hGV] at p1
          rw [← k3.cell (p := ⟨G, k + 1, none⟩) hGV] at p2
          have y1 : pf k ≤ pf (k + 1) := hmk
          have y2 : (0 : Int) ≤ pf k := by omega
          have y3 : pf (k + 1) ≤ (g.size : Int) := by omega
          have y4 : (pf k).toNat = plc l.data.toList false k := by omega
          have y5 : (pf (k + 1)).toNat = plc l.data.toList false (k + 1) := by omega
          have y6 : (0 : Int) ≤ pf (k + 1) := by omega
          have K4 : Hid (Blk wr H (arw (fun i => .string (splG l.data.toList g false i)) (.string ⟨#[]⟩) n k) 9 ∧ k < n) := hide ⟨k2, hk⟩
          generalize pf k = X at p1 y1 y2 y4
          generalize pf (k + 1) = Y at p2 y1 y3 y5 y6
          generalize plc l.data.toList false k = PA at y4 HGE
          generalize plc l.data.toList false (k + 1) = PB at y5 HGE
          have hge := HGE.out
          have hne : G ≠ H := by omega
          have KS : Hid (∀ x, Below wr.heap.size wr x → (x.cell? ⟨G, k, none⟩ = some (.int .i64 X) ∧ x.cell? ⟨G, k + 1, none⟩ = some (.int .i64 Y)) ∧ x.cell? ⟨H, k, none⟩ = some (.string ⟨#[]⟩) ∧ x.frozen? ⟨H, k, none⟩ = false) := hide fun x hx => by
            have hk2' := K4.out.1.below hx
            refine ⟨⟨?_, ?_⟩, ?_, hk2'.frozen k⟩
            · rw [hx.cell (p := ⟨G, k, none⟩) (show G < wr.heap.size by omega)]; exact p1
            · rw [hx.cell (p := ⟨G, k + 1, none⟩) (show G < wr.heap.size by omega)]; exact p2
            · rw [hk2'.cell k, arw_at _ _ _ _ _ hk, if_neg (by omega)]
          have HX : Hid (Below wr.heap.size wr wr) := hide (Below.refl _ _)
          clear hf hmk hmn hgn hX hY k2 k3 HC0
          go_wp2_with fail
          go_region_held3 (fun x => x.cell? ⟨G, k, none⟩ = some (.int .i64 X) ∧ x.cell? ⟨G, k + 1, none⟩ = some (.int .i64 Y)) (first | exact (KS.out _ (below_d HX.out (Below.refl _ _) rfl rfl rfl rfl)).1 | exact ⟨(cell_other hne).trans x0, (cell_other hne).trans x1⟩ | go_keep) ((go_at_call 135; refine (CC.out _).mono ?_; rintro e wy ⟨rfl, hy⟩; replace HX := hide (below_d HX.out hy rfl rfl rfl rfl); clear hy; obtain ⟨⟨x0, x1⟩, x2, x3⟩ := KS.out _ HX.out))
          have K5 : Hid (Blk (wy.setCell ⟨H, k, none⟩ (.string (splG l.data.toList g false k))) H (arw (fun i => .string (splG l.data.toList g false i)) (.string ⟨#[]⟩) n (k + 1)) 9) := hide (by
            have := Blk.set (K4.out.1.below HX.out) k (.string (splG l.data.toList g false k))
            rw [show (Value.string (splG l.data.toList g false k)) = (fun i => Value.string (splG l.data.toList g false i)) k from rfl, arw_set _ _ _ _ hk] at this
            exact this)
          have K6 : Hid (Below H V (wy.setCell ⟨H, k, none⟩ (.string (splG l.data.toList g false k)))) := hide ((K3.out.trans (HX.out.mono (by omega))).setCell (p := ⟨H, k, none⟩) (Nat.le_refl _) _)
          go_wp2_with fail
          go_roundw
          case rel => exact ⟨k + 1, by go_num, hide ⟨by omega, K5.out, K6.out⟩⟩
          case measure => simp [intOf]; omega
        · obtain rfl : k = n := by omega
          have hk' : ¬ (k : Int) < (k : Int) := by omega
          have HS : Hid (SLst wr (some ⟨H, 0, none⟩) (splV l.data.toList g k false)) := hide (Or.inr ⟨H, 0, rfl, hlt2, fun i hi => by
            have hi' : i < k := by simpa [splV] using hi
            rw [Nat.zero_add, k2.cell i, arw_at _ _ _ _ _ hi', if_pos hi']
            simp [splV, hi', List.getD_eq_getElem?_getD]⟩)
          clear k2 k3 hk
          go_wp2_with fail
          go_ret2
          unfold SpR
          rw [E.out, Int.toNat_natCast]
          refine ⟨H, rfl, HS.out, ?_⟩
          rw [HG.out]
          exact HV0.out.trans (K3.out.mono (by omega))
theorem split_any (l g : ByteArray) (n : Int) (lg : Bool) (w : World) (hl : l.size ≤ 1000000) (hg : g.size ≤ 1000000) (hn0 : -9223372036854775808 ≤ n) (hn1 : n ≤ 9223372036854775807) :
    Calls Tryz.prog 128 #[.string l, .string g, .int .i64 n, .bool lg] w (SpR w l.data.toList g n lg) := by
  have hsz := Lib.size_eq l
  by_cases h : 1 ≤ n ∧ n ≤ 4096 ∧ szV lg * (n.toNat + 1) ≤ l.data.toList.length
  · obtain ⟨m, rfl⟩ : ∃ m : Nat, n = (m : Int) := ⟨n.toNat, by omega⟩
    rw [← hsz, Int.toNat_natCast] at h
    cases lg
    · exact spl_f l g m w hl hg (by omega) (by omega) h.2.2
    · exact spl_t l g m w hl hg (by omega) (by omega) h.2.2
  · have e := spl_no (G := g.size) h
    have C : Calls Tryz.prog 128 #[.string l, .string g, .int .i64 n, .bool lg] w fun e w' => e = .returned (.tuple #[.slice none 0 0, .int .i64 100]) ∧ w' = w := by
      rw [← hsz] at h
      cases lg
      · exact spl_bad_f l g n w hl hn0 hn1 h
      · exact spl_bad_t l g n w hl hn0 hn1 h
    refine C.mono ?_
    rintro e' w' ⟨rfl, rfl⟩
    unfold SpR
    rw [e]
    exact ⟨rfl, Below.refl _ _⟩
end Go.Proofs.YtpdfpbbamnhkfaaGreatDoor.G10
namespace Go.Proofs.YtpdfpbbamnhkfaaGreatDoor.G10
open Go.RowKit Go.Deep
set_option linter.unusedVariables false
set_option linter.unusedSimpArgs false
def byI (x d : Int) : UInt8 := UInt8.ofNat (x / d % 256).toNat
theorem byI_cell (x d : Int) : bcell (byI x d) = .int .u8 (x / d % 256) := by
  unfold bcell byI
  have h0 : 0 ≤ x / d % 256 := Int.emod_nonneg _ (by omega)
  have h1 : x / d % 256 < 256 := Int.emod_lt_of_pos _ (by omega)
  rw [UInt8.toNat_ofNat']
  congr 1
  omega
def p4 (x : Int) : List UInt8 := [byI x 16777216, byI x 65536, byI x 256, byI x 1]
def lck (n : Nat) : Nat := (4 - n % 4) % 4
def pdT (l : List UInt8) : List UInt8 := l ++ List.replicate (lck l.length) 0
theorem pdT_len (l : List UInt8) : (pdT l).length = l.length + lck l.length := by unfold pdT; simp
def jg (ss : List ByteArray) : List UInt8 := ss.flatMap fun s => pdT s.data.toList
def jl : Nat → List ByteArray → List UInt8
  | _, [] => []
  | a, s :: ss => p4 (a : Int) ++ jl (a + (pdT s.data.toList).length) ss
theorem jg_snoc (ss : List ByteArray) (s : ByteArray) : jg (ss ++ [s]) = jg ss ++ pdT s.data.toList := by unfold jg; simp
theorem jl_snoc : ∀ (ss : List ByteArray) (a : Nat) (s : ByteArray), jl a (ss ++ [s]) = jl a ss ++ p4 ((a + (jg ss).length : Nat) : Int)
  | [], a, s => by simp [jl, jg]
  | t :: ss, a, s => by
    rw [List.cons_append, jl, jl, jl_snoc ss _ s, List.append_assoc]
    have : jg (t :: ss) = pdT t.data.toList ++ jg ss := by unfold jg; simp
    rw [this, List.length_append, Nat.add_assoc]
theorem jg_take (ss : List ByteArray) (k : Nat) : (jg (ss.take k)).length ≤ (jg ss).length := by
  conv => rhs; rw [← List.take_append_drop k ss]
  unfold jg
  rw [List.flatMap_append, List.length_append]
  omega
theorem take_s (ss : List ByteArray) (k : Nat) (h : k < ss.length) : ss.take (k + 1) = ss.take k ++ [ss.getD k ⟨#[]⟩] := by
  rw [List.take_succ_eq_append_getElem h, List.getD_eq_getElem?_getD, List.getElem?_eq_getElem h]; rfl
theorem lack_any (n : Nat) (w : World) (hn : n ≤ 1000000000) : Calls Tryz.prog 87 #[.int .i64 (n : Int)] w fun e w' => e = .returned (.int .i64 ((lck n : Nat) : Int)) ∧ w' = w := by
  have h0 : (0 : Int) ≤ (n : Int) := by omega
  have h1 : (n : Int) ≤ 1000000000 := by omega
  have e : (4 - (n : Int) % 4) % 4 = ((lck n : Nat) : Int) := by unfold lck; omega
  have HE := hide e
  clear e
  go_enter Tryz.func87, Tryz.ntmps87
  go_wp2_with fail
  go_ret
  exact ⟨by rw [← HE.out]; rfl, rfl⟩
def PlR (B : Nat) (w : World) (v : Value) (ys : List UInt8) (e : Ending) (w' : World) : Prop := ∃ v' W1, e = .returned v' ∧ Below w.heap.size w W1 ∧ Grew W1 w' B v v' ys
set_option maxRecDepth 8000 in
theorem place_any (v : Value) (ys : List UInt8) (x B : Nat) (w : World) (hx : x ≤ 1000000000) (h : BRow w B v ys) (hB : B ≤ w.heap.size) (hl : ys.length ≤ 1000000000) :
    Calls Tryz.prog 88 #[v, .int .i64 (x : Int)] w (PlR B w v (ys ++ p4 (x : Int))) := by
  obtain ⟨v', w2, hr, hg⟩ := app_b4 (p4 (x : Int)) h hB (by simp [p4]) (by simp [p4]; omega) _ rfl
  have ec : (p4 (x : Int)).map bcell = [.int .u8 ((x : Int) / 16777216), .int .u8 ((x : Int) / 65536 % 256), .int .u8 ((x : Int) / 256 % 256), .int .u8 ((x : Int) % 256)] := by
    unfold p4
    simp only [List.map_cons, List.map_nil, byI_cell, Int.ediv_one]
    rw [show (x : Int) / 16777216 % 256 = (x : Int) / 16777216 by omega]
  have el : (p4 (x : Int)).length = 4 := rfl
  have HB := hide ((Below.refl w.heap.size w).alloc (Nat.le_refl _) (.cells ((p4 (x : Int)).map bcell).toArray 5))
  rw [el] at hr
  have HG := hide hg
  rw [ec] at hr HB HG
  have HR := hide hr
  have h0 : (0 : Int) ≤ (x : Int) := by omega
  have h1 : (x : Int) ≤ 1000000000 := by omega
  clear hr hg ec el h hB hl hx
  go_enter Tryz.func88, Tryz.ntmps88
  go_wp2_with (at_builtin; refine Lib.wpList_append_run _ rfl _ _ _ _ rfl _ _ rfl rfl _ _ HR.out ?_)
  go_ret
  exact ⟨_, _, rfl, HB.out, HG.out⟩
end Go.Proofs.YtpdfpbbamnhkfaaGreatDoor.G10
