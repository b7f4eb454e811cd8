/-
  What the landed rowOf answers.
-/
import Derived.Test.YtgmmhlpdkoiheaaDoorS8Opn
import Derived.Lib.LazyBuf
import Derived.Lib.SlBuf
namespace Go.Proofs.YtgmmhlpdkoiheaaDoor
open Go.RowKit Go.Deep
set_option linter.unusedVariables false

theorem run_copy_str8 (w : World) (ty : TypeId) (b o n cap : Nat) (t : ByteArray) (hle : n ≤ t.size)
    (hc : ∀ j, j < n → (w.cell? ⟨b, o + j, none⟩).isSome = true) (hf : ∀ j, j < n → w.frozen? ⟨b, o + j, none⟩ = false) :
    (Builtin.copy_ #[45, 9] ty #[.slice (some ⟨b, o, none⟩) n cap, .string t]).run Tryd.prog w = .ok (goInt n) (w.setCells b o ((t.data.toList.take n).map bcell)) := by
  have hmin : Nat.min t.size n = n := Nat.min_eq_right hle
  have hl : ((t.data.toList.take n).map bcell).length = n := by rw [List.length_map, List.length_take, Nat.min_eq_left (by rw [← Lib.size_eq]; exact hle)]
  have hst := run_storeCells_cells (P := Tryd.prog) b o ((t.data.toList.take n).map bcell) 0 w (by rw [hl]; simpa using hc) (by rw [hl]; simpa using hf) (by
    intro v hv
    obtain ⟨x, _, rfl⟩ := List.mem_map.1 hv
    rfl)
  simp [Builtin.copy_, run_underlying Tryd.underlying45, Builtin.lenOf, Builtin.firstCells, Tryd.sizeOf5, hmin]
  rw [← List.map_take]
  have hst' : (storeCells ⟨b, o, none⟩ (List.map (fun b : UInt8 => Value.int IntKind.u8 (b.toNat : Int)) (List.take n t.data.toList))).run Tryd.prog w = .ok () (w.setCells b o ((t.data.toList.take n).map bcell)) := hst
  rw [hst', List.map_take]
  rfl
/- the row with which bytes begin -/
def rowV (l : List UInt8) : Rw := ⟨l.getD 0 0, l.getD 1 0, l.getD 2 0, l.getD 3 0, (numV ((l.drop 4).take 4) : Nat), (numV ((l.drop 8).take 4) : Nat), (numV ((l.drop 12).take 4) : Nat)⟩
theorem rowV_ok (l : List UInt8) : RwOk (rowV l) := by
  have h : ∀ k, numV ((l.drop k).take 4) ≤ 4294967295 := by
    intro k
    have h1 := numV_lt _ ((l.drop k).take 4) rfl
    have h2 : 256 ^ ((l.drop k).take 4).length ≤ 256 ^ 4 := Nat.pow_le_pow_right (by omega) (by rw [List.length_take]; omega)
    omega
  have h1 := h 4
  have h2 := h 8
  have h3 := h 12
  unfold RwOk rowV
  simp only
  omega
theorem four8 (l : List UInt8) (h : 4 ≤ l.length) : (l.take 4).map bcell = [.int .u8 ((rowV l).b0.toNat : Int), .int .u8 ((rowV l).b1.toNat : Int), .int .u8 ((rowV l).b2.toNat : Int), .int .u8 ((rowV l).b3.toNat : Int)] := by
  match l, h with
  | a :: b :: c :: d :: r, _ => rfl
theorem slice_list (s : ByteArray) (a b : Nat) (h : b ≤ s.size) : (s.extract a b).data.toList = (s.data.toList.drop a).take (b - a) := by
  rw [ByteArray.data_extract, Array.toList_extract, List.extract_eq_take_drop]
theorem st7_blk {W : World} {b : Nat} {x0 x1 x2 x3 x4 x5 x6 : Value} {t : TypeId} (h : Blk W b #[x0, x1, x2, x3, x4, x5, x6] t) (v0 v1 v2 v3 v4 v5 v6 : Value) : Blk (((((((W.setCell ⟨b, 0, none⟩ v0).setCell ⟨b, 1, none⟩ v1).setCell ⟨b, 2, none⟩ v2).setCell ⟨b, 3, none⟩ v3).setCell ⟨b, 4, none⟩ v4).setCell ⟨b, 5, none⟩ v5).setCell ⟨b, 6, none⟩ v6) b #[v0, v1, v2, v3, v4, v5, v6] t := by
  have h0 : Blk (W.setCell ⟨b, 0, none⟩ v0) b #[v0, x1, x2, x3, x4, x5, x6] t := h.set 0 v0
  have h1 : Blk ((W.setCell ⟨b, 0, none⟩ v0).setCell ⟨b, 1, none⟩ v1) b #[v0, v1, x2, x3, x4, x5, x6] t := h0.set 1 v1
  have h2 : Blk (((W.setCell ⟨b, 0, none⟩ v0).setCell ⟨b, 1, none⟩ v1).setCell ⟨b, 2, none⟩ v2) b #[v0, v1, v2, x3, x4, x5, x6] t := h1.set 2 v2
  have h3 : Blk ((((W.setCell ⟨b, 0, none⟩ v0).setCell ⟨b, 1, none⟩ v1).setCell ⟨b, 2, none⟩ v2).setCell ⟨b, 3, none⟩ v3) b #[v0, v1, v2, v3, x4, x5, x6] t := h2.set 3 v3
  have h4 : Blk (((((W.setCell ⟨b, 0, none⟩ v0).setCell ⟨b, 1, none⟩ v1).setCell ⟨b, 2, none⟩ v2).setCell ⟨b, 3, none⟩ v3).setCell ⟨b, 4, none⟩ v4) b #[v0, v1, v2, v3, v4, x5, x6] t := h3.set 4 v4
  have h5 : Blk ((((((W.setCell ⟨b, 0, none⟩ v0).setCell ⟨b, 1, none⟩ v1).setCell ⟨b, 2, none⟩ v2).setCell ⟨b, 3, none⟩ v3).setCell ⟨b, 4, none⟩ v4).setCell ⟨b, 5, none⟩ v5) b #[v0, v1, v2, v3, v4, v5, x6] t := h4.set 5 v5
  have h6 : Blk (((((((W.setCell ⟨b, 0, none⟩ v0).setCell ⟨b, 1, none⟩ v1).setCell ⟨b, 2, none⟩ v2).setCell ⟨b, 3, none⟩ v3).setCell ⟨b, 4, none⟩ v4).setCell ⟨b, 5, none⟩ v5).setCell ⟨b, 6, none⟩ v6) b #[v0, v1, v2, v3, v4, v5, v6] t := h5.set 6 v6
  exact h6
theorem st7_other {W : World} {b b' : Nat} {cs : Array Value} {t : TypeId} (h : Blk W b' cs t) (hne : b' ≠ b) (v0 v1 v2 v3 v4 v5 v6 : Value) : Blk (((((((W.setCell ⟨b, 0, none⟩ v0).setCell ⟨b, 1, none⟩ v1).setCell ⟨b, 2, none⟩ v2).setCell ⟨b, 3, none⟩ v3).setCell ⟨b, 4, none⟩ v4).setCell ⟨b, 5, none⟩ v5).setCell ⟨b, 6, none⟩ v6) b' cs t :=
  (((((((h.other hne 0 v0).other hne 1 v1).other hne 2 v2).other hne 3 v3).other hne 4 v4).other hne 5 v5).other hne 6 v6)
theorem st7_below {V W : World} {b B : Nat} (hb : Below B V W) (hB : B ≤ b) (v0 v1 v2 v3 v4 v5 v6 : Value) : Below B V (((((((W.setCell ⟨b, 0, none⟩ v0).setCell ⟨b, 1, none⟩ v1).setCell ⟨b, 2, none⟩ v2).setCell ⟨b, 3, none⟩ v3).setCell ⟨b, 4, none⟩ v4).setCell ⟨b, 5, none⟩ v5).setCell ⟨b, 6, none⟩ v6) :=
  (((((((hb.setCell (p := ⟨b, 0, none⟩) hB v0).setCell (p := ⟨b, 1, none⟩) hB v1).setCell (p := ⟨b, 2, none⟩) hB v2).setCell (p := ⟨b, 3, none⟩) hB v3).setCell (p := ⟨b, 4, none⟩) hB v4).setCell (p := ⟨b, 5, none⟩) hB v5).setCell (p := ⟨b, 6, none⟩) hB v6)
set_option maxRecDepth 8000 in
set_option maxHeartbeats 2000000 in
theorem rowOf_any (s : ByteArray) (w : World) (h : 16 ≤ s.size) (hs : s.size ≤ 1000000000000) :
    Calls Tryd.prog 45 #[.string s] w fun e w' => e = .returned (.agg (rwC (rowV s.data.toList))) ∧ Below w.heap.size w w' := by
  have hs1 : (16 : Int) ≤ (s.size : Int) := by omega
  have hs2 : (s.size : Int) ≤ 1000000000000 := by omega
  have hs3 : (4 : Int) ≤ (s.size : Int) := by omega
  have hs4 : (8 : Int) ≤ (s.size : Int) := by omega
  have hs5 : (12 : Int) ≤ (s.size : Int) := by omega
  have hs6 : 4 ≤ s.size := by omega
  have hs7 : 8 ≤ s.size := by omega
  have hs8 : 12 ≤ s.size := by omega
  have C := hide (fun (t : ByteArray) (w : World) (ht : t.size ≤ 4) => number_any t w ht)
  obtain ⟨r, hr⟩ : ∃ r, rowV s.data.toList = r := ⟨_, rfl⟩
  have hlen : s.data.toList.length = s.size := (Lib.size_eq s).symm
  have k0 := Blk.new w (rwC ⟨0, 0, 0, 0, 0, 0, 0⟩) 56
  have hb0 : Below w.heap.size w ((w.alloc (.cells (rwC ⟨0, 0, 0, 0, 0, 0, 0⟩) 56)).alloc (.cells #[.int .u8 0, .int .u8 0, .int .u8 0, .int .u8 0] 54)) := ((Below.refl _ _).alloc (Nat.le_refl _) _).alloc (by simp) _
  have k1 : Blk ((w.alloc (.cells (rwC ⟨0, 0, 0, 0, 0, 0, 0⟩) 56)).alloc (.cells #[.int .u8 0, .int .u8 0, .int .u8 0, .int .u8 0] 54)) (w.heap.size + 1) #[.int .u8 0, .int .u8 0, .int .u8 0, .int .u8 0] 54 := by
    have := Blk.new (w.alloc (.cells (rwC ⟨0, 0, 0, 0, 0, 0, 0⟩) 56)) #[.int .u8 0, .int .u8 0, .int .u8 0, .int .u8 0] 54
    rwa [show (w.alloc (.cells (rwC ⟨0, 0, 0, 0, 0, 0, 0⟩) 56)).heap.size = w.heap.size + 1 by simp] at this
  replace k0 := k0.below ((Below.refl _ _).alloc (Nat.le_refl _) (.cells #[.int .u8 0, .int .u8 0, .int .u8 0, .int .u8 0] 54))
  have hcp := run_copy_str8 _ 3 (w.heap.size + 1) 0 4 4 s (by omega) (fun j hj => by rw [Nat.zero_add, k1.cell j]; simp; omega) (fun j hj => k1.frozen _)
  rw [four8 _ (by omega), hr] at hcp
  have k2 := (((k1.set 0 (.int .u8 (r.b0.toNat : Int))).set 1 (.int .u8 (r.b1.toNat : Int))).set 2 (.int .u8 (r.b2.toNat : Int))).set 3 (.int .u8 (r.b3.toNat : Int))
  have k3 := (((k0.other (b' := w.heap.size + 1) (by omega) 0 (.int .u8 (r.b0.toNat : Int))).other (b' := w.heap.size + 1) (by omega) 1 (.int .u8 (r.b1.toNat : Int))).other (b' := w.heap.size + 1) (by omega) 2 (.int .u8 (r.b2.toNat : Int))).other (b' := w.heap.size + 1) (by omega) 3 (.int .u8 (r.b3.toNat : Int))
  have hb2 := (((hb0.setCell (p := ⟨w.heap.size + 1, 0, none⟩) (by simp) (.int .u8 (r.b0.toNat : Int))).setCell (p := ⟨w.heap.size + 1, 1, none⟩) (by simp) (.int .u8 (r.b1.toNat : Int))).setCell (p := ⟨w.heap.size + 1, 2, none⟩) (by simp) (.int .u8 (r.b2.toNat : Int))).setCell (p := ⟨w.heap.size + 1, 3, none⟩) (by simp) (.int .u8 (r.b3.toNat : Int))
  obtain ⟨W2, hW2⟩ : ∃ W2, ((((((w.alloc (.cells (rwC ⟨0, 0, 0, 0, 0, 0, 0⟩) 56)).alloc (.cells #[.int .u8 0, .int .u8 0, .int .u8 0, .int .u8 0] 54)).setCell ⟨w.heap.size + 1, 0, none⟩ (.int .u8 (r.b0.toNat : Int))).setCell ⟨w.heap.size + 1, 1, none⟩ (.int .u8 (r.b1.toNat : Int))).setCell ⟨w.heap.size + 1, 2, none⟩ (.int .u8 (r.b2.toNat : Int))).setCell ⟨w.heap.size + 1, 3, none⟩ (.int .u8 (r.b3.toNat : Int))) = W2 := ⟨_, rfl⟩
  replace hcp := hcp.trans (congrArg (Result.ok (goInt 4)) hW2)
  replace hcp : (Builtin.copy_ #[45, 9] 3 #[.slice (some ⟨w.heap.size + 1, 0, none⟩) 4 4, .string s]).run Tryd.prog ((w.alloc (.cells #[.int .u8 0, .int .u8 0, .int .u8 0, .int .u8 0, .int .i64 0, .int .i64 0, .int .i64 0] 56)).alloc (.cells #[.int .u8 0, .int .u8 0, .int .u8 0, .int .u8 0] 54)) = .ok (.int .i64 4) W2 := hcp
  rw [hW2] at k2 k3 hb2
  have K2 : Blk W2 (w.heap.size + 1) (tagC r) 54 := k2
  clear k0 k1 k2 hb0 hW2
  have HK2 := hide K2
  have HK3 := hide k3
  have HB2 := hide hb2
  have q1 : r.sum = ((numV (List.take 4 (List.drop 4 s.data.toList)) : Nat) : Int) := by rw [← hr]; rfl
  have q2 : r.pl = ((numV (List.take 4 (List.drop 8 s.data.toList)) : Nat) : Int) := by rw [← hr]; rfl
  have q3 : r.ln = ((numV (List.take 4 (List.drop 12 s.data.toList)) : Nat) : Int) := by rw [← hr]; rfl
  have HQ := hide (And.intro q1 (And.intro q2 q3))
  have hok := rowV_ok s.data.toList
  rw [hr] at hok ⊢
  clear K2 k3 hb2 hlen hr q1 q2 q3
  go_enter Tryd.func45, Tryd.ntmps45
  have KS := hide (fun x (hx : Below W2.heap.size W2 x) => (show x.cell? ⟨w.heap.size + 1, 0, none⟩ = some (.int .u8 (r.b0.toNat : Int)) ∧ x.cell? ⟨w.heap.size + 1, 1, none⟩ = some (.int .u8 (r.b1.toNat : Int)) ∧ x.cell? ⟨w.heap.size + 1, 2, none⟩ = some (.int .u8 (r.b2.toNat : Int)) ∧ x.cell? ⟨w.heap.size + 1, 3, none⟩ = some (.int .u8 (r.b3.toNat : Int)) from ⟨(HK2.out.below hx).cell 0, (HK2.out.below hx).cell 1, (HK2.out.below hx).cell 2, (HK2.out.below hx).cell 3⟩))
  obtain ⟨⟨p1, p2⟩, ⟨p3, p4⟩, ⟨p5, p6⟩⟩ := hok
  obtain ⟨⟨z0, z1, z2, z3, z4, z5, z6⟩⟩ := And.intro HK3.out.seven8 trivial
  have f0 := HK3.out.frozen 0
  have f1 := HK3.out.frozen 1
  have f2 := HK3.out.frozen 2
  have f3 := HK3.out.frozen 3
  have f4 := HK3.out.frozen 4
  have f5 := HK3.out.frozen 5
  have f6 := HK3.out.frozen 6
  have HB := hide (Below.refl W2.heap.size W2)
  go_wp2_with fail
  rename_i q0
  have HA := hide q0
  clear q0
  obtain ⟨c0, c1, c2, c3⟩ := KS.out W2 (Below.refl _ _)
  refine wp_region_held_drew (S := (fun x => x.cell? ⟨w.heap.size + 1, 0, none⟩ = some (.int .u8 (r.b0.toNat : Int)) ∧ x.cell? ⟨w.heap.size + 1, 1, none⟩ = some (.int .u8 (r.b1.toNat : Int)) ∧ x.cell? ⟨w.heap.size + 1, 2, none⟩ = some (.int .u8 (r.b2.toNat : Int)) ∧ x.cell? ⟨w.heap.size + 1, 3, none⟩ = some (.int .u8 (r.b3.toNat : Int)))) (by kernel_rfl) (KS.out _ ((Below.refl _ _).drew)) (fun hHeld => ?_)
  refine takeW (i := 0) (d := 7) (v := .agg (tagC r)) rfl rfl (by kernel_rfl) (by kernel_rfl) (by kernel_rfl) (fun _ _ _ h => h) (by rfl) ?_ (by assumption) ?_
  · intro x hSx
    obtain ⟨q0, q1, q2, q3⟩ := hSx
    go_simp
  simp only [Act.put, List.setIfInBounds_toArray, List.set_cons_zero, List.set_cons_succ]
  refine takeW (i := 1) (d := 8) (v := .string s) rfl rfl (by kernel_rfl) (by kernel_rfl) (by kernel_rfl) (fun _ _ _ h => h) (by rfl) ?_ (by assumption) ?_
  · intro x hSx
    obtain ⟨q0, q1, q2, q3⟩ := hSx
    go_simp
  simp only [Act.put, List.setIfInBounds_toArray, List.set_cons_zero, List.set_cons_succ]
  refine takeW (i := 2) (d := 9) (v := .string (s.extract 4 8)) rfl rfl (by kernel_rfl) (by kernel_rfl) (by kernel_rfl) (fun _ _ _ h => h) (by rfl) ?_ (by assumption) ?_
  · intro x hSx
    obtain ⟨q0, q1, q2, q3⟩ := hSx
    go_simp
  simp only [Act.put, List.setIfInBounds_toArray, List.set_cons_zero, List.set_cons_succ]
  refine takeW (i := 4) (d := 11) (v := .string s) rfl rfl (by kernel_rfl) (by kernel_rfl) (by kernel_rfl) (fun _ _ _ h => h) (by rfl) ?_ (by assumption) ?_
  · intro x hSx
    obtain ⟨q0, q1, q2, q3⟩ := hSx
    go_simp
  simp only [Act.put, List.setIfInBounds_toArray, List.set_cons_zero, List.set_cons_succ]
  refine takeW (i := 5) (d := 12) (v := .string (s.extract 8 12)) rfl rfl (by kernel_rfl) (by kernel_rfl) (by kernel_rfl) (fun _ _ _ h => h) (by rfl) ?_ (by assumption) ?_
  · intro x hSx
    obtain ⟨q0, q1, q2, q3⟩ := hSx
    go_simp
  simp only [Act.put, List.setIfInBounds_toArray, List.set_cons_zero, List.set_cons_succ]
  refine takeW (i := 7) (d := 14) (v := .string s) rfl rfl (by kernel_rfl) (by kernel_rfl) (by kernel_rfl) (fun _ _ _ h => h) (by rfl) ?_ (by assumption) ?_
  · intro x hSx
    obtain ⟨q0, q1, q2, q3⟩ := hSx
    go_simp
  simp only [Act.put, List.setIfInBounds_toArray, List.set_cons_zero, List.set_cons_succ]
  refine takeW (i := 8) (d := 15) (v := .string (s.extract 12 16)) rfl rfl (by kernel_rfl) (by kernel_rfl) (by kernel_rfl) (fun _ _ _ h => h) (by rfl) ?_ (by assumption) ?_
  · intro x hSx
    obtain ⟨q0, q1, q2, q3⟩ := hSx
    go_simp
  simp only [Act.put, List.setIfInBounds_toArray, List.set_cons_zero, List.set_cons_succ]
  refine wpAnyH_ready (rs := [3]) (by kernel_rfl) (by simp) ?_
  refine AllReadyH.cons rfl (fun K hK => ?_) AllReadyH.nil
  rw [if_pos (by rfl)]
  go_simp
  go_at_call 42
  refine (C.out _ _ (by rw [ByteArray.size_extract]; omega)).mono ?_
  rintro e x ⟨rfl, hx⟩
  replace hx := hx.symm
  subst hx
  refine hK.out _ _ hHeld (fun hHeld => ?_)
  clear hK K
  refine wpAnyH_ready (rs := [6]) (by kernel_rfl) (by simp) ?_
  refine AllReadyH.cons rfl (fun K hK => ?_) AllReadyH.nil
  rw [if_pos (by rfl)]
  go_simp
  go_at_call 42
  refine (C.out _ _ (by rw [ByteArray.size_extract]; omega)).mono ?_
  rintro e x ⟨rfl, hx⟩
  replace hx := hx.symm
  subst hx
  refine hK.out _ _ hHeld (fun hHeld => ?_)
  clear hK K
  refine wpAnyH_ready (rs := [9]) (by kernel_rfl) (by simp) ?_
  refine AllReadyH.cons rfl (fun K hK => ?_) AllReadyH.nil
  rw [if_pos (by rfl)]
  go_simp
  go_at_call 42
  refine (C.out _ _ (by rw [ByteArray.size_extract]; omega)).mono ?_
  rintro e x ⟨rfl, hx⟩
  replace hx := hx.symm
  subst hx
  refine hK.out _ _ hHeld (fun hHeld => ?_)
  clear hK K
  refine takeW (i := 10) (d := 17) (v := .agg #[.int .u8 (r.b0.toNat : Int), .int .u8 (r.b1.toNat : Int), .int .u8 (r.b2.toNat : Int), .int .u8 (r.b3.toNat : Int), .int .i64 ((numV (List.take 4 (List.drop 4 s.data.toList)) : Nat) : Int), .int .i64 ((numV (List.take 4 (List.drop 8 s.data.toList)) : Nat) : Int), .int .i64 ((numV (List.take 4 (List.drop 12 s.data.toList)) : Nat) : Int)]) rfl rfl (by kernel_rfl) (by kernel_rfl) (by kernel_rfl) (fun _ _ _ h => h) (by rfl) ?_ (by assumption) ?_
  · intro x hSx
    obtain ⟨q0, q1, q2, q3⟩ := hSx
    go_simp
  simp only [Act.put, List.setIfInBounds_toArray, List.set_cons_zero, List.set_cons_succ]
  refine wpAnyH_ready (rs := [11]) (by kernel_rfl) (by simp) ?_
  refine AllReadyH.cons rfl (fun K hK => ?_) AllReadyH.nil
  rw [if_pos (by rfl)]
  go_simp
  have KO := st7_other HK2.out (b := w.heap.size) (by omega) (.int .u8 (r.b0.toNat : Int)) (.int .u8 (r.b1.toNat : Int)) (.int .u8 (r.b2.toNat : Int)) (.int .u8 (r.b3.toNat : Int)) (.int .i64 ((numV (List.take 4 (List.drop 4 s.data.toList)) : Nat) : Int)) (.int .i64 ((numV (List.take 4 (List.drop 8 s.data.toList)) : Nat) : Int)) (.int .i64 ((numV (List.take 4 (List.drop 12 s.data.toList)) : Nat) : Int))
  have K7 := st7_blk HK3.out (.int .u8 (r.b0.toNat : Int)) (.int .u8 (r.b1.toNat : Int)) (.int .u8 (r.b2.toNat : Int)) (.int .u8 (r.b3.toNat : Int)) (.int .i64 ((numV (List.take 4 (List.drop 4 s.data.toList)) : Nat) : Int)) (.int .i64 ((numV (List.take 4 (List.drop 8 s.data.toList)) : Nat) : Int)) (.int .i64 ((numV (List.take 4 (List.drop 12 s.data.toList)) : Nat) : Int))
  have B7 := st7_below HB2.out (Nat.le_refl _) (.int .u8 (r.b0.toNat : Int)) (.int .u8 (r.b1.toNat : Int)) (.int .u8 (r.b2.toNat : Int)) (.int .u8 (r.b3.toNat : Int)) (.int .i64 ((numV (List.take 4 (List.drop 4 s.data.toList)) : Nat) : Int)) (.int .i64 ((numV (List.take 4 (List.drop 8 s.data.toList)) : Nat) : Int)) (.int .i64 ((numV (List.take 4 (List.drop 12 s.data.toList)) : Nat) : Int))
  generalize (((((((W2.setCell ⟨w.heap.size, 0, none⟩ (.int .u8 (r.b0.toNat : Int))).setCell ⟨w.heap.size, 1, none⟩ (.int .u8 (r.b1.toNat : Int))).setCell ⟨w.heap.size, 2, none⟩ (.int .u8 (r.b2.toNat : Int))).setCell ⟨w.heap.size, 3, none⟩ (.int .u8 (r.b3.toNat : Int))).setCell ⟨w.heap.size, 4, none⟩ (.int .i64 ((numV (List.take 4 (List.drop 4 s.data.toList)) : Nat) : Int))).setCell ⟨w.heap.size, 5, none⟩ (.int .i64 ((numV (List.take 4 (List.drop 8 s.data.toList)) : Nat) : Int))).setCell ⟨w.heap.size, 6, none⟩ (.int .i64 ((numV (List.take 4 (List.drop 12 s.data.toList)) : Nat) : Int))) = W7 at KO K7 B7 ⊢
  have hS7 : ∀ x : World, x.heap = W7.heap → x.cell? ⟨w.heap.size + 1, 0, none⟩ = some (.int .u8 (r.b0.toNat : Int)) ∧ x.cell? ⟨w.heap.size + 1, 1, none⟩ = some (.int .u8 (r.b1.toNat : Int)) ∧ x.cell? ⟨w.heap.size + 1, 2, none⟩ = some (.int .u8 (r.b2.toNat : Int)) ∧ x.cell? ⟨w.heap.size + 1, 3, none⟩ = some (.int .u8 (r.b3.toNat : Int)) := fun x hx => by
    have KX : Blk x (w.heap.size + 1) (tagC r) 54 := by unfold Blk at *; rw [hx]; exact KO
    exact ⟨KX.cell 0, KX.cell 1, KX.cell 2, KX.cell 3⟩
  refine hK.out _ _ (hS7 _ rfl) (fun hHeld => ?_)
  clear KO hS7
  clear hK K
  refine wpAnyH_done (by kernel_rfl) ?_ _
  all_goals
    refine HA.out _ _ ?_
    go_wp2
    obtain ⟨q1, q2, q3⟩ := HQ.out
    rw [← q1, ← q2, ← q3] at K7
    have K8 : Blk W7 w.heap.size (rwC r) 56 := K7
    obtain ⟨s0, s1, s2, s3, s4, s5, s6⟩ := K8.seven8
    clear K7 K8 z0 z1 z2 z3 z4 z5 z6 f0 f1 f2 f3 f4 f5 f6 c0 c1 c2 c3 hcp q1 q2 q3
    exact bodyPost_ret (v := .agg (rwC r)) (by simp [results, Tryd.results45, go_sem, s0, s1, s2, s3, s4, s5, s6]) rfl ⟨rfl, B7.drew⟩
end Go.Proofs.YtgmmhlpdkoiheaaDoor
