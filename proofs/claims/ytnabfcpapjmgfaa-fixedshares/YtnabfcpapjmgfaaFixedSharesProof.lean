/- Proved: for every int and every list of ints FixedShares returns true and leaves its arguments as they were (no condition). -/
import Derived.Test.YtnabfcpapjmgfaaRows
import Derived.Deep.RegionWith
import Derived.Deep.RegionHeld3
import Derived.Test.YtnabfcpapjmgfaaBase
import Derived.Test.YtnabfcpapjmgfaaKeepOwn
import Derived.Test.YtnabfcpapjmgfaaRow
import Derived.Test.YtnabfcpapjmgfaaShareGood
import Derived.Test.YtnabfcpapjmgfaaRShare
import Derived.Test.YtnabfcpapjmgfaaSame
import Derived.WalkKit
import Derived.ProofKit
import Derived.OpenShut
import Derived.ShutString
import Derived.ChangeOld
import Derived.Below
namespace Go.Proofs.Ytnabfcpapjmgfaa.fixedShares
open Go.ChangeShapes Go.WideShapes Go.ChangeAt Go.RowKit
open Go.ChangeMaps (open_string shut_string)
set_option linter.unusedVariables false

theorem own : ownKnob Try.prog.godebug = none := by kernel_rfl
theorem laidOut : laidOutB Try.prog = true := by kernel_rfl

/-- WHAT THE WALK IS TOLD OF A SLICE OF INTEGERS THAT CAME IN: it is nil; or it leads to a row of 'cap' cells, the numbers 'zs' (the first 'len' are its elements, the rest its spare room), each fitting its kind. -/
def IsRow (k : IntKind) (w : World) (a : Option Addr) (len cap : Nat) (zs : List Int) : Prop :=
  (a = none ∧ len = 0 ∧ cap = 0 ∧ zs = []) ∨
  ∃ x, a = some x ∧ len ≤ cap ∧ cap ≤ maxLen ∧ zs.length = cap ∧ (∀ i, i < zs.length → w.cell? (x.add i) = some (.int k (zs.getD i 0))) ∧ ∀ n ∈ zs, (Lit.int k n).wf = true

theorem lst_front {w : World} {a : Option Addr} {ys : List Int} {x : Int} (h : Lst w a (ys ++ [x])) : Lst w a ys := by
  have := h.take ys.length
  rwa [List.take_left] at this
theorem lst_last {w : World} {g : Nat} {ys : List Int} {x : Int} (h : Lst w (some ⟨g, 0, none⟩) (ys ++ [x])) : w.cell? ⟨g, ys.length, none⟩ = some (.int .i64 x) := by
  rcases h with h | ⟨b, off, e, _, h⟩
  · simp at h
  · simp only [Option.some.injEq, Addr.mk.injEq] at e
    obtain ⟨rfl, rfl, _⟩ := e
    have := h ys.length (by simp)
    rw [Nat.zero_add] at this
    rw [this]
    simp [List.getD_eq_getElem?_getD]

theorem own_le {w : World} {base g n cap : Nat} {xs : List Value} (h : w.ownsRow base 3 1 (.slice (some ⟨g, 0, none⟩) n cap) n xs) : n ≤ cap ∧ cap ≤ 9223372036854775807 := by
  rcases h.2 with ⟨h', _⟩ | ⟨g', cap', cur, h', _, _, h1, h2, _⟩
  · simp at h'
  · simp only [Value.slice.injEq, Option.some.injEq, Addr.mk.injEq, and_true, true_and] at h'
    obtain ⟨rfl, rfl⟩ := h'
    exact ⟨h1, by unfold maxLen at h2; exact h2⟩
theorem lst_set {w : World} {g : Nat} {zs : List Int} {p : Nat} (h : Lst w (some ⟨g, 0, none⟩) zs) (hne : g ≠ p) (k : Nat) (v : Value) : Lst (w.setCell ⟨p, k, none⟩ v) (some ⟨g, 0, none⟩) zs := by
  rcases h with h | ⟨b, off, e, hb, h⟩
  · exact Or.inl h
  · simp only [Option.some.injEq, Addr.mk.injEq] at e
    obtain ⟨rfl, rfl, _⟩ := e
    refine Or.inr ⟨g, 0, rfl, by simpa [World.setCell] using hb, fun i hi => ?_⟩
    rw [World.cell?_of_block (w := w) (Below.heap_setCell w ⟨p, k, none⟩ v g hne)]
    exact h i hi
theorem own_below {w w' : World} {base g n cap : Nat} {ys : List Int} (h : Own w base g n cap ys) (hb : Below w.heap.size w w') : Own w' base g n cap ys :=
  World.ownsRow.kept (row := none) h ⟨hb.os, hb.tape, hb.output, hb.size, fun k hk _ => hb.block k hk⟩ (Or.inr (by simp [Value.ownBlock]))
theorem own_cell {w : World} {base g n cap : Nat} {ys : List Int} (h : Own w base g n cap ys) (k : Nat) (hk : k < n) : ∃ x, w.cell? ⟨g, k, none⟩ = some (.int .i64 x) := by
  have h1 := World.ownsRow.cellAt h k (by omega)
  have hl := h.1
  rw [Nat.mul_one, List.length_map] at hl
  rw [List.getElem?_map, List.getElem?_eq_getElem (by omega)] at h1
  exact ⟨_, h1⟩
theorem wraps (n : Nat) (h : n ≤ 4096) : IntKind.i64.wrap ((n : Int) + 1 - 1) = (n : Int) ∧ IntKind.i64.wrap (n : Int) = (n : Int) ∧ IntKind.i64.wrap ((n : Int) + 1) = (n : Int) + 1 := by
  simp only [IntKind.wrap_i64]
  refine ⟨by omega, by omega, by omega⟩
theorem shL_len (t : Int) (ys : List Int) : (shL t ys).length = ys.length := by simp [shL]

set_option maxHeartbeats 4000000 in
theorem core (t : Int) (a1 : Option Addr) (len1 cap1 : Nat) (zs : List Int) (w : World) (t1 : -9223372036854775808 ≤ t) (t2 : t ≤ 9223372036854775807) (hl : zs.length = len1) (hlc : len1 ≤ cap1) (hcm : cap1 ≤ 9223372036854775807) (hL : Lst w a1 zs) (hok : shOK t (zs.take 4096) = true) :
    Calls Try.prog 8 #[.int .i64 t, .slice a1 len1 cap1] w fun e w' => e = .returned (.bool true) ∧ Below w.heap.size w w' := by
  obtain ⟨ys, hys⟩ : ∃ ys, zs.take 4096 = ys := ⟨_, rfl⟩
  have hyl : ys.length ≤ 4096 := by rw [← hys, List.length_take]; omega
  have CI := hide (fun (w' : World) (h : Lst w' a1 zs) => ints_own a1 len1 cap1 4096 zs w' hl hlc hcm h (by omega) (by omega))
  rw [hys] at CI hok
  have HK := hide hok
  rw [show ((4096 : Nat) : Int) = 4096 from rfl] at CI
  obtain ⟨n, hn⟩ : ∃ n, ys.length = n := ⟨_, rfl⟩
  have Hn := hide hn
  have HL := hide hL
  have hn1 : n ≤ 4096 := by omega
  have hn2 : (n : Int) ≤ 4096 := by omega
  clear hL hl hlc hcm hys hyl hn hok
  obtain ⟨i0, hi, hz0, hz1, hz2⟩ := info_parts info_int
  have HI := hide hi
  have HI0 := hide hz0
  have HI1 := hide hz1
  have HI2 := hide hz2
  clear hi hz0 hz1 hz2
  go_enter Try.func8, Try.ntmps8
  go_wp2_with fail
  refine (CI.out _ HL.out).mono ?_
  rintro e w1 ⟨v, rfl, g1, c1, rfl, B1, O1⟩
  rw [Hn.out] at O1 ⊢
  have HB1 := hide B1
  have HO1 := hide O1
  have k1 : ∀ (i : Nat) (u : Value), [Value.int .i64 77][i]? = some u → (w1.alloc (.cells #[Value.int .i64 77] 3)).cell? ((⟨w1.heap.size, 0, none⟩ : Addr).add i) = some u := by
    intro i u hu
    match i, hu with
    | 0, hu => simp at hu; subst hu; simp [Addr.add]
  have k2 : ∀ u ∈ [Value.int .i64 77], u.oneCell' = true := by
    intro u hu; simp at hu; subst hu; rfl
  have k3 : n + 1 ≤ maxLen := by unfold maxLen; omega
  have k4 : (n + 1) * 8 ≤ 140737488355328 := by omega
  have k5 : w.heap.size ≤ (w1.alloc (.cells #[Value.int .i64 77] 3)).heap.size := by have := B1.size; simp; omega
  have K1 := hide k1
  have K2 := hide k2
  have K3 := hide k3
  have K4 := hide k4
  have K5 := hide k5
  clear k1 k2 k3 k4 k5 B1 O1
  go_wp2_with (at_builtin; refine wpList_append_own _ rfl _ _ 29 rfl w.heap.size 3 i0 (.int .i64 0) 1 8 Try.underlying29 HI.out HI0.out HI1.out HI2.out rfl (by decide) _ n _ rfl (HO1.out.alloc _) ⟨_, 0, none⟩ 1 1 [.int .i64 77] rfl rfl K1.out K2.out K3.out K4.out K5.out ?_; intro v2 w2 hown2 hgrow2 hnil2; obtain ⟨g2, c2, hv2, hg2, hg2'⟩ := hown2.form (Nat.succ_pos n); subst hv2; have hcp := own_le hown2; have hcp2 : (n : Int) ≤ (c2 : Int) := by omega)
  have hg : (w1.alloc (.cells #[Value.int .i64 77] 3)).grownBy w2 (some g1) := hgrow2
  have B2 : Below w.heap.size w w2 := (HB1.out.alloc HB1.out.size _).grown hg K5.out (fun r hr => by have := HO1.out.base_le; simp at hr; omega)
  have O2 : Own w2 w.heap.size g2 (n + 1) c2 (ys ++ [77]) := by unfold Own; rw [List.map_append]; exact hown2
  have L2 := hide (O2.lst (by rw [List.length_append, Hn.out]; rfl))
  have HB2 := hide B2
  clear hgrow2 hnil2 hown2 hg B2 O2 K1 K2 K3 K4 K5 HO1
  have CG := hide (fun w' h => share_good t (some ⟨g2, 0, none⟩) n c2 ys w' t1 t2 Hn.out hn1 h HK.out)
  refine (CG.out _ (lst_front L2.out)).mono ?_
  rintro e w3 ⟨g3, rfl, B3, O3⟩
  have hs2 := HB2.out.size
  have HB3 := hide (HB2.out.trans (B3.mono hs2))
  have HM3 := hide B3
  have HO3 := hide O3
  clear B3 O3
  have LZ3 := hide (HL.out.below HB3.out)
  go_wp2_with fail
  refine (CI.out _ LZ3.out).mono ?_
  rintro e w4 ⟨v, rfl, g4, c4, rfl, B4, O4⟩
  rw [Hn.out] at O4 ⊢
  have HM4 := hide (HM3.out.trans (B4.mono HM3.out.size))
  have HB4 := hide (HB3.out.trans (B4.mono HB3.out.size))
  have L3 := hide ((HO3.out.lst (by rw [shL_len]; exact Hn.out)).below B4)
  have HO4 := hide O4
  have HW34 := hide B4
  have hs34 := B4.size
  clear B4 O4
  have CR := hide (rshare_good t (some ⟨g4, 0, none⟩) n c4 ys w4 t1 t2 Hn.out hn1 (HO4.out.lst Hn.out) HK.out)
  go_wp2_with fail
  refine CR.out.mono ?_
  rintro e w5 ⟨g5, c5, rfl, B5, O5⟩
  have HM5 := hide (HM4.out.trans (B5.mono HM4.out.size))
  have HB5 := hide (HB4.out.trans (B5.mono HB4.out.size))
  have L3' := hide (L3.out.below B5)
  have HO5 := hide O5
  have hb3 := HO3.out.base_le
  have hb5 := HO5.out.base_le
  have HO3b := hide (own_below (own_below HO3.out HW34.out) B5)
  have HM45 := hide B5
  clear B5 O5 CR
  have CS := hide (same_any (some ⟨g3, 0, none⟩) (some ⟨g5, 0, none⟩) n n c5 (shL t ys) w5 (by rw [shL_len]; exact Hn.out) (by omega) L3'.out (HO5.out.lst (by rw [shL_len]; exact Hn.out)))
  go_wp2_with fail
  refine CS.out.mono ?_
  rintro e w' ⟨rfl, q1, rfl⟩
  clear CS
  go_wp2_with fail
  have hs5 : w4.heap.size ≤ w5.heap.size := HM45.out.size
  have hne : g5 ≠ g3 := by omega
  have L5 := hide (HO5.out.lst (by rw [shL_len]; exact Hn.out))
  go_loopw [10] (fun vi wr => ∃ (k : Nat), vi = .int .i64 k ∧ Hid (k ≤ n ∧ Below w.heap.size w wr ∧ Below w2.heap.size w2 wr ∧ Lst wr (some ⟨g5, 0, none⟩) (shL t ys) ∧ ∃ xs, Own wr w2.heap.size g3 n n xs)) (fun vi _ => n - (intOf vi).toNat)
  case atStart => exact ⟨0, rfl, hide ⟨by omega, below_drewN HB5.out q1, below_drewN HM5.out q1, L5.out.drewN q1, _, HO3b.out.drewN q1⟩⟩
  case round =>
    obtain ⟨k, rfl, HR⟩ := hrel
    obtain ⟨r1, r2, r3, r4, xs, r5⟩ := HR.out
    clear HR
    by_cases hlt : k < n
    · have hlt' : (k : Int) < (n : Int) := by omega
      obtain ⟨x, hcx⟩ := own_cell r5 k hlt
      have hfx : wr.frozen? ⟨g3, k, none⟩ = false := World.ownsRow.frozenAt r5 k
      have R := hide (And.intro r2 (And.intro r3 (And.intro r4 r5)))
      clear r2 r3 r4 r5
      go_wp2
      go_roundw
      case rel =>
        obtain ⟨r2, r3, r4, r5⟩ := R.out
        exact ⟨k + 1, by go_num, hide ⟨by omega, r2.setCell (show w.heap.size ≤ g3 by omega) _, r3.setCell (show w2.heap.size ≤ g3 by omega) _, lst_set r4 hne k _, _, r5.stored k (-5)⟩⟩
      case measure => simp [intOf]; omega
    · have hlt' : ¬ (k : Int) < (n : Int) := by omega
      have R2 := hide r2
      have R3 := hide r3
      have R4 := hide r4
      have L2w := hide (L2.out.below r3)
      clear r2 r3 r4 r5
      go_wp2_with fail
      refine (CG.out _ (lst_front L2w.out)).mono ?_
      rintro e w7 ⟨g7, rfl, B7, O7⟩
      have HB7 := hide (R2.out.trans (B7.mono R2.out.size))
      have L2v := hide (L2w.out.below B7)
      have L5v := hide (R4.out.below B7)
      have L7v := hide (O7.lst (by rw [shL_len]; exact Hn.out))
      have LZv := hide (HL.out.below HB7.out)
      clear B7 O7
      have c77 := lst_last L2v.out
      rw [Hn.out] at c77
      have S1 := hide (fun (w' : World) (h : Below w7.heap.size w7 w') => same_any (some ⟨g7, 0, none⟩) (some ⟨g5, 0, none⟩) n n c5 (shL t ys) w' (by rw [shL_len]; exact Hn.out) (by omega) (L7v.out.below h) (L5v.out.below h))
      have S2 := hide (fun (w' : World) (g8 c8 : Nat) (h : Below w7.heap.size w7 w') (h8 : Lst w' (some ⟨g8, 0, none⟩) ys) => same_any (some ⟨g2, 0, none⟩) (some ⟨g8, 0, none⟩) n c2 c8 ys w' Hn.out (by omega) (lst_front (L2v.out.below h)) h8)
      have SW := hide (fun w' => wakes_any w')
      have c78 : w7.cell? ⟨g2, n, none⟩ = some (.int .i64 77) := c77
      have hgw := cell_lt c78
      go_wp2_with fail
      rename_i b0
      have HA := hide b0
      clear b0
      clear c77 CG R2 R3 R4 L2w L2v L5v L7v HO3b HO5 HB5 HM5 HM45 L3 L3' HW34 HO4 HM4 HB4 HO3 HM3 HB3 LZ3 hb3 hb5 hne hs5 hs34 L5 HB2 HB1 L2 HI HI0 HI1 HI2 HK hg2 hg2' hs2 HL
      obtain ⟨e1, e2, e3⟩ := wraps n hn1
      have p0 : (0 : Int) ≤ (n : Int) := by omega
      have p1 : (n : Int) < (n : Int) + 1 := by omega
      have p2 : n ≤ c2 := by omega
      have p3 : ¬ c2 < n := by omega
      clear hcp
      go_region_held3 (fun x => x.cell? ⟨g2, n, none⟩ = some (.int .i64 77)) (first | go_keep | (rw [HB9.out.cell (p := ⟨g2, n, none⟩) hgw]; exact c78)) ((first | (go_at_call_of 25 (Value.slice (some ⟨g7, 0, none⟩) n n); refine (S1.out _ ?_).mono ?_; exact ⟨rfl, rfl, rfl, Nat.le_refl _, fun _ _ => rfl⟩; rintro e w8 ⟨rfl, q8, rfl⟩) | (go_at_call 22; refine (CI.out _ ?_).mono ?_; exact LZv.out; rintro e w9 ⟨v9, rfl, g9, c9, rfl, B9, O9⟩; rw [Hn.out] at O9 ⊢; have B9' : Below w7.heap.size w7 w9 := ⟨B9.os, B9.tape, B9.output, B9.size, B9.block⟩; have L9 := hide (O9.lst Hn.out); have HB9 := hide B9'; clear B9 O9 B9') | (go_at_call_of 25 (Value.slice (some ⟨g2, 0, none⟩) n c2); refine (S2.out _ _ _ ?_ ?_).mono ?_; exact ⟨HB9.out.os, HB9.out.tape, HB9.out.output, HB9.out.size, HB9.out.block⟩; exact L9.out; rintro e w10 ⟨rfl, q10, rfl⟩) | (go_at_call 15; refine (SW.out _).mono ?_; rintro e w11 ⟨rfl, rfl⟩)))
      all_goals
        have BE := HB7.out.trans (HB9.out.mono HB7.out.size)
        refine HA.out _ _ ?_
        go_wp2
        go_ret
        exact ⟨rfl, ⟨BE.os, BE.tape, BE.output, BE.size, BE.block⟩⟩

set_option maxHeartbeats 4000000 in
theorem core0 (t : Int) (a1 : Option Addr) (len1 cap1 : Nat) (zs : List Int) (w : World) (hl : zs.length = len1) (hlc : len1 ≤ cap1) (hcm : cap1 ≤ 9223372036854775807) (hL : Lst w a1 zs) (hok : shOK t (zs.take 4096) = false) :
    Calls Try.prog 8 #[.int .i64 t, .slice a1 len1 cap1] w fun e w' => e = .returned (.bool true) ∧ Below w.heap.size w w' := by
  obtain ⟨ys, hys⟩ : ∃ ys, zs.take 4096 = ys := ⟨_, rfl⟩
  have hyl : ys.length ≤ 4096 := by rw [← hys, List.length_take]; omega
  have CI := hide (fun (w' : World) (h : Lst w' a1 zs) => ints_own a1 len1 cap1 4096 zs w' hl hlc hcm h (by omega) (by omega))
  rw [hys] at CI hok
  have HK := hide hok
  rw [show ((4096 : Nat) : Int) = 4096 from rfl] at CI
  obtain ⟨n, hn⟩ : ∃ n, ys.length = n := ⟨_, rfl⟩
  have Hn := hide hn
  have HL := hide hL
  have hn1 : n ≤ 4096 := by omega
  have hn2 : (n : Int) ≤ 4096 := by omega
  clear hL hl hlc hcm hys hyl hn hok
  obtain ⟨i0, hi, hz0, hz1, hz2⟩ := info_parts info_int
  have HI := hide hi
  have HI0 := hide hz0
  have HI1 := hide hz1
  have HI2 := hide hz2
  clear hi hz0 hz1 hz2
  go_enter Try.func8, Try.ntmps8
  go_wp2_with fail
  refine (CI.out _ HL.out).mono ?_
  rintro e w1 ⟨v, rfl, g1, c1, rfl, B1, O1⟩
  rw [Hn.out] at O1 ⊢
  have HB1 := hide B1
  have HO1 := hide O1
  have k1 : ∀ (i : Nat) (u : Value), [Value.int .i64 77][i]? = some u → (w1.alloc (.cells #[Value.int .i64 77] 3)).cell? ((⟨w1.heap.size, 0, none⟩ : Addr).add i) = some u := by
    intro i u hu
    match i, hu with
    | 0, hu => simp at hu; subst hu; simp [Addr.add]
  have k2 : ∀ u ∈ [Value.int .i64 77], u.oneCell' = true := by
    intro u hu; simp at hu; subst hu; rfl
  have k3 : n + 1 ≤ maxLen := by unfold maxLen; omega
  have k4 : (n + 1) * 8 ≤ 140737488355328 := by omega
  have k5 : w.heap.size ≤ (w1.alloc (.cells #[Value.int .i64 77] 3)).heap.size := by have := B1.size; simp; omega
  have K1 := hide k1
  have K2 := hide k2
  have K3 := hide k3
  have K4 := hide k4
  have K5 := hide k5
  clear k1 k2 k3 k4 k5 B1 O1
  go_wp2_with (at_builtin; refine wpList_append_own _ rfl _ _ 29 rfl w.heap.size 3 i0 (.int .i64 0) 1 8 Try.underlying29 HI.out HI0.out HI1.out HI2.out rfl (by decide) _ n _ rfl (HO1.out.alloc _) ⟨_, 0, none⟩ 1 1 [.int .i64 77] rfl rfl K1.out K2.out K3.out K4.out K5.out ?_; intro v2 w2 hown2 hgrow2 hnil2; obtain ⟨g2, c2, hv2, hg2, hg2'⟩ := hown2.form (Nat.succ_pos n); subst hv2; have hcp := own_le hown2; have hcp2 : (n : Int) ≤ (c2 : Int) := by omega)
  have hg : (w1.alloc (.cells #[Value.int .i64 77] 3)).grownBy w2 (some g1) := hgrow2
  have B2 : Below w.heap.size w w2 := (HB1.out.alloc HB1.out.size _).grown hg K5.out (fun r hr => by have := HO1.out.base_le; simp at hr; omega)
  have O2 : Own w2 w.heap.size g2 (n + 1) c2 (ys ++ [77]) := by unfold Own; rw [List.map_append]; exact hown2
  have L2 := hide (O2.lst (by rw [List.length_append, Hn.out]; rfl))
  have HB2 := hide B2
  clear hgrow2 hnil2 hown2 hg B2 O2 K1 K2 K3 K4 K5 HO1
  have CG := hide (fun w' h => share_bad t (some ⟨g2, 0, none⟩) n c2 ys w' Hn.out hn1 h HK.out)
  refine (CG.out _ (lst_front L2.out)).mono ?_
  rintro e w3 ⟨rfl, q2, rfl⟩
  have LZ3 := hide ((HL.out.below HB2.out).drewN q2)
  go_wp2_with fail
  refine (CI.out _ LZ3.out).mono ?_
  rintro e w4 ⟨v, rfl, g4, c4, rfl, B4, O4⟩
  rw [Hn.out] at O4 ⊢
  have HB4 : Hid (Below w.heap.size w w4) := hide (HB2.out.trans ((show Below w2.heap.size w2 w4 from ⟨B4.os, B4.tape, B4.output, B4.size, B4.block⟩).mono HB2.out.size))
  have L2w : Hid (Lst w4 (some ⟨g2, 0, none⟩) (ys ++ [77])) := hide (L2.out.below ⟨B4.os, B4.tape, B4.output, B4.size, B4.block⟩)
  have CR := hide (rshare_bad t (some ⟨g4, 0, none⟩) n c4 ys w4 Hn.out hn1 (O4.lst Hn.out) HK.out)
  clear B4 O4
  go_wp2_with fail
  refine CR.out.mono ?_
  rintro e w' ⟨rfl, rfl⟩
  have CE := hide (fun w' => same_any none none 0 0 0 [] w' rfl (by omega) (Or.inl rfl) (Or.inl rfl))
  clear CR
  go_wp2_with fail
  refine (CE.out _).mono ?_
  rintro e w'' ⟨rfl, q3, rfl⟩
  go_wp2_with fail
  go_loop [10] (fun vi => vi = .int .i64 0) (fun _ => 0)
  case atStart => rfl
  case round =>
    subst hrel
    go_wp2_with fail
    refine (CG.out _ (lst_front (L2w.out.drewN q3))).mono ?_
    rintro e w6 ⟨rfl, q6, rfl⟩
    go_wp2_with fail
    rename_i b0
    have SW := hide (fun w' => wakes_any w')
    have LZv := hide (HL.out.below HB4.out)
    have c78 := lst_last L2w.out
    rw [Hn.out] at c78
    have hgw := cell_lt c78
    have HA := hide b0
    clear b0
    have S2 := hide (fun (w'' : World) (g8 c8 : Nat) (h : Below w'.heap.size w' w'') (h8 : Lst w'' (some ⟨g8, 0, none⟩) ys) => same_any (some ⟨g2, 0, none⟩) (some ⟨g8, 0, none⟩) n c2 c8 ys w'' Hn.out (by omega) (lst_front (L2w.out.below h)) h8)
    clear CG LZ3 L2w HB2 L2 HB1 HI HI0 HI1 HI2 HK HL hg2 hg2'
    obtain ⟨e1, e2, e3⟩ := wraps n hn1
    have p0 : (0 : Int) ≤ (n : Int) := by omega
    have p1 : (n : Int) < (n : Int) + 1 := by omega
    have p2 : n ≤ c2 := by omega
    have p3 : ¬ c2 < n := by omega
    clear hcp
    go_region_held3 (fun x => x.cell? ⟨g2, n, none⟩ = some (.int .i64 77)) (first | go_keep | (rw [HB9.out.cell (p := ⟨g2, n, none⟩) hgw]; exact c78)) ((first | (go_at_call_of 25 (Value.slice none 0 0); refine (CE.out _).mono ?_; rintro e w8 ⟨rfl, q8, rfl⟩) | (go_at_call 22; refine (CI.out _ ?_).mono ?_; exact LZv.out; rintro e w9 ⟨v9, rfl, g9, c9, rfl, B9, O9⟩; rw [Hn.out] at O9 ⊢; have B9' : Below w'.heap.size w' w9 := ⟨B9.os, B9.tape, B9.output, B9.size, B9.block⟩; have L9 := hide (O9.lst Hn.out); have HB9 := hide B9'; clear B9 O9 B9') | (go_at_call_of 25 (Value.slice (some ⟨g2, 0, none⟩) n c2); refine (S2.out _ _ _ ?_ ?_).mono ?_; exact ⟨HB9.out.os, HB9.out.tape, HB9.out.output, HB9.out.size, HB9.out.block⟩; exact L9.out; rintro e w10 ⟨rfl, q10, rfl⟩) | (go_at_call 15; refine (SW.out _).mono ?_; rintro e w11 ⟨rfl, rfl⟩)))
    all_goals
      have BE := HB4.out.trans (HB9.out.mono HB4.out.size)
      refine HA.out _ _ ?_
      go_wp2
      go_ret
      exact ⟨rfl, ⟨BE.os, BE.tape, BE.output, BE.size, BE.block⟩⟩


/-! ### STEP 1: THE WALK: the Go text returns true, AND WRITES NOTHING THAT WAS THERE: 'Below w.heap.size w w'' (Derived/Below.lean: '.refl', '.alloc', '.drew', '.setCell' at a new block, '.trans'). Open each 'IsRow' by 'rcases' AHEAD of 'go_enter'; part every test ahead of the walk. -/
theorem walk (a0 : Int) (a1 : Option Addr) (len1 cap1 : Nat) (z1 : List Int) (w : World) (w0 : (Lit.int .i64 a0).wf = true) (w1 : IsRow .i64 w a1 len1 cap1 z1) :
    Calls Try.prog 8 #[.int .i64 a0, .slice a1 len1 cap1] w fun e w' => e = .returned (.bool true) ∧ Below w.heap.size w w' := by
  obtain ⟨hl, hlc, hcm, hL, _⟩ := lst_of_row w a1 len1 cap1 z1 w1
  have bd0 := bounds_i64 w0
  cases hok : shOK a0 ((z1.take len1).take 4096)
  · exact core0 a0 a1 len1 cap1 _ w hl hlc hcm hL hok
  · exact core a0 a1 len1 cap1 _ w bd0.1 bd0.2 hl hlc hcm hL hok

/-! ### THE ROW's STEP: WRITTEN OUT: LEAVE IT -/
set_option maxRecDepth 100000 in
theorem lifted (os : Os) (started : os.Started) (H : Type) (enc : TypeId × Value → H) :
    ReturnsInHanded {} Try.checked os 8 .any (Rows.fixedSharesSpec.pre6 enc Try.prog Try.f8 Rows.fixedSharesRow.domain false) (Rows.fixedSharesSpec.post enc Try.prog Try.f8 false true false false) := by
  refine returnsInHanded_of_change (C := Try.checked) own started (by kernel_rfl) Try.func8
    (ChangeSpec.witness6 (enc := enc) (C := Try.checked) false ⟨#[], #[.int .i64 0, .slice none 0 0], []⟩ 8 (by kernel_rfl) (by kernel_rfl) (by kernel_rfl) (by kernel_rfl)) ?_
  intro W base args ds gs before hval0 hW hcnd _
  have hval : ∀ (j : Nat) t v, Try.f8.params[j]? = some t → args[j]? = some v → Value.okWide Try.prog W .any base t v := hval0
  have hW' := hW
  obtain ⟨p, q, hA0, hV, rfl, hfz, hnd⟩ := hW
  have hA : DataW.TrodAll enc Try.prog W 0 (fun _ => true) true Try.f8.params.toList args.toList ds p := hA0
  rw [Try.params8] at hA hval
  obtain ⟨v0, vs0, d0, ds0, p0, q0, hargs, rfl, rfl, h0, r0⟩ := trodAll_cons hA
  obtain ⟨v1, vs1, d1, ds1, p1, q1, rfl, rfl, rfl, h1, r1⟩ := trodAll_cons r0
  obtain ⟨rfl, rfl, rfl⟩ := trodAll_nil r1
  obtain rfl : args = #[v0, v1] := by cases args; simp_all
  obtain ⟨rfl, rfl⟩ := trodVars_none hV
  obtain ⟨a0, rfl, rfl, rfl, w0⟩ := open_int Try.underlying3 (hval 0 3 v0 rfl rfl) h0
  obtain ⟨a1, len1, cap1, rfl⟩ := okWide_slice Try.underlying29 (hval 1 29 v1 rfl rfl)
  have k1 := h1
  have lt1 : ∀ x ∈ p1, x.block < W.heap.size := by obtain ⟨m, hm⟩ := k1; exact DataW.trod_lt m _ _ _ hm
  obtain ⟨z1, w1⟩ : ∃ zs, IsRow .i64 W a1 len1 cap1 zs := by
    obtain ⟨fuel, hf⟩ := h1
    rcases open_ints Try.underlying29 Try.underlying3 (by kernel_rfl) hf with ⟨hcs, _⟩ | ⟨x, l, c, zs, hcs, _, hl, hm, hz, _, hcell, hwz⟩
    · simp [Value.cells] at hcs
      obtain ⟨rfl, rfl, rfl⟩ := hcs
      exact ⟨[], .inl ⟨rfl, rfl, rfl, rfl⟩⟩
    · simp [Value.cells] at hcs
      obtain ⟨rfl, rfl, rfl⟩ := hcs
      exact ⟨zs, .inr ⟨_, rfl, hl, hm, by simpa using hz, hcell, hwz⟩⟩
  clear hA0 hval0
  refine (walk a0 a1 len1 cap1 z1 W w0 w1).mono fun e W' ⟨he, bel⟩ => ?_
  subst he
  exact ⟨_, rfl, _, _, _, [], _, [], hW', trodAll_mk1 (shut_bool Try.underlying4 _), (trodAll_cons_mk (shut_int Try.underlying3 w0) (trodAll_cons_mk (Below.trod laidOut (by kernel_rfl) (of_decide_eq_true (by kernel_rfl)) k1 bel lt1) trodAll_mk0)), rfl, bel.frame _, fun h => by cases h⟩

theorem over : Rows.fixedSharesRow.holds Try.pinned (OpenSpec.ofChange Rows.fixedSharesSpec) :=
  OpenClaim.holds_of_wide 8 Try.f8 rfl rfl rfl rfl rfl rfl rfl ⟨rfl, rfl, rfl, rfl, rfl⟩ rfl rfl rfl rfl rfl (by kernel_rfl) Try.func8 (by kernel_rfl)
    (of_decide_eq_true (by kernel_rfl)) (by unfold Func.isWrapper; first | (rw [if_pos (by decide +kernel)]; kernel_rfl) | (rw [if_neg (by decide +kernel)]; exact ⟨rfl, rfl⟩))
    (fun os started H enc _ => lifted os started H enc)

/-- ████ THE STATEMENT ████ -/
theorem proved : Rows.FixedSharesSaid := over
end Go.Proofs.Ytnabfcpapjmgfaa.fixedShares
namespace Go.Proofs.Ytnabfcpapjmgfaa
theorem fixedShares_holds : Rows.FixedSharesSaid := fixedShares.proved
#print axioms fixedShares_holds
end Go.Proofs.Ytnabfcpapjmgfaa
