/-
  Rows of a directory that a call owns; what the landed row.appendTo answers of any row; bytes copied into a row.
-/
import Derived.Test.YtgmmhlpdkoiheaaDoorS8Gd
import Derived.Test.YtgmmhlpdkoiheaaDoorS8Wri
import Derived.Test.YtgmmhlpdkoiheaaDoorG10J0
import Derived.Laws.CopyRow
namespace Go.Proofs.YtgmmhlpdkoiheaaDoor
open Go.RowKit Go.Deep
set_option linter.unusedVariables false
set_option linter.unusedSimpArgs false

def RRow (w : World) (B : Nat) (v : Value) (rs : List Rw) : Prop := w.ownsRow B 56 7 v rs.length (rcs rs)
theorem RRow.nil (w : World) (B : Nat) : RRow w B (.slice none 0 0) [] := World.ownsRow_nil _ _ _ _
theorem RRow.later {w w' : World} {B : Nat} {v : Value} {rs : List Rw} (h : RRow w B v rs) (hb : Below w.heap.size w w') : RRow w' B v rs := ownsRow_kept h (fun k _ hk => hb.block k hk)
theorem RRow.shape {w : World} {B : Nat} {v : Value} {rs : List Rw} (h : RRow w B v rs) : ∃ a cap, v = .slice a rs.length cap := by
  obtain ⟨_, ⟨h0, h1⟩ | ⟨g, cap, cur, hv, _⟩⟩ := h
  · exact ⟨none, 0, by rw [h0, h1]⟩
  · exact ⟨_, cap, hv⟩
theorem RRow.lst {w : World} {B : Nat} {v : Value} {rs : List Rw} (h : RRow w B v rs) (hn : 0 < rs.length) : ∃ g cap, v = .slice (some ⟨g, 0, none⟩) rs.length cap ∧ RLst w g rs := by
  have h' := h
  obtain ⟨_, ⟨h0, h1⟩ | ⟨g, cap, cur, hv, hg, hh, hc, hm, _⟩⟩ := h'
  · omega
  · refine ⟨g, cap, hv, ?_⟩
    rw [hv] at h
    refine ⟨(World.ownsRow.lt h g rfl).2, fun i r hi => ?_⟩
    have hil := (List.getElem?_eq_some_iff.1 hi).1
    have q : ∀ j, j < 7 → w.cell? ⟨g, i * 7 + j, none⟩ = (rwC r)[j]? := fun j hj => by
      rw [World.ownsRow.cellAt h (i * 7 + j) (by omega)]
      exact rcs_at rs i r j hi hj
    exact ⟨q 0 (by omega), q 1 (by omega), q 2 (by omega), q 3 (by omega), q 4 (by omega), q 5 (by omega), q 6 (by omega)⟩
theorem rcs_one (r : Rw) : rcs [r] = (rwC r).toList := by unfold rcs; simp
theorem app_rowG {W : World} {B : Nat} {v : Value} {rs : List Rw} {LT : Nat} (r : Rw) (h : RRow W B v rs) (hB : B ≤ W.heap.size) (hl : rs.length = LT ∧ LT ≤ 1000) (H : Nat) (hH : W.heap.size = H) :
    ∃ g cap w2, (Builtin.append_ #[49, 49] 49 #[v, .slice (some ⟨H, 0, none⟩) 1 1]).run Tryd.prog (W.alloc (.cells (rwC r) 56)) = .ok (.slice (some ⟨g, 0, none⟩) (LT + 1) cap) w2 ∧ RRow w2 B (.slice (some ⟨g, 0, none⟩) (LT + 1) cap) (rs ++ [r]) ∧ Below B W w2 ∧ (∀ k, k < W.heap.size → some k ≠ v.ownBlock → w2.heap[k]? = W.heap[k]?) := by
  obtain ⟨hLT, hl⟩ := hl
  subst hLT
  obtain ⟨i0, hi, hz0, hz1, hz2⟩ := info_parts5 info_row
  subst hH
  obtain ⟨g, cap, w2, hr, ho, hg, _, _⟩ := run_append_lies (P := Tryd.prog) (W.alloc (.cells (rwC r) 56)) 49 49 B 56 i0 _ 7 32 Tryd.underlying49 hi hz0 hz1 hz2 rfl (by decide) v rs.length (rcs rs) (World.ownsRow.alloc h _) ⟨W.heap.size, 0, none⟩ 1 1 (rwC r).toList (by simp)
    (fun j u hu => by rw [Go.WideShapes.add_plain, Nat.zero_add, World.cell?_alloc_at _ _ _ _ rfl]; simpa using hu) (fun u hu => by simp at hu; rcases hu with rfl | rfl | rfl | rfl | rfl | rfl | rfl <;> rfl) (by decide) (by unfold maxLen; omega) (by omega) (by simp; omega) (W.heap.size + 1) (by simp)
  refine ⟨g, cap, w2, hr, ?_, ((Below.refl B W).alloc hB _).grown hg (by simp; omega) fun k hk' => (World.ownsRow.lt h k hk').1, fun k hk hne => ?_⟩
  · unfold RRow
    rw [rcs_app, rcs_one, List.length_append]
    exact ho
  · rw [hg.block k (by simp; omega) (fun e => hne e)]
    show (W.heap.push _)[k]? = _
    rw [Array.getElem?_push, if_neg (by omega)]
theorem RRow.own_lt {w : World} {B k : Nat} {v : Value} {rs : List Rw} (h : RRow w B v rs) (e : some k = v.ownBlock) : k < w.heap.size := (World.ownsRow.lt h k e.symm).2
set_option maxRecDepth 8000 in
set_option maxHeartbeats 2000000 in
theorem appendTo_any (r : Rw) (v : Value) (ys : List UInt8) (B : Nat) (w : World) (hr : RwOk r) (h : BRow w B v ys) (hB : B ≤ w.heap.size) (hl : ys.length ≤ 100000000) :
    Calls Tryd.prog 55 #[.agg (rwC r), v] w fun e w' => ∃ v', e = .returned v' ∧ BRow w' B v' (ys ++ tgT r ++ nbT r.sum 4 ++ nbT r.pl 4 ++ nbT r.ln 4) ∧ KB B w w' := by
  obtain ⟨h1, h2, h3⟩ := hr
  obtain ⟨b0, b1, b2, b3, sum, pl, ln⟩ := r
  simp only at h1 h2 h3
  simp only [tgT]
  have hb0 := (Below.refl w.heap.size w).alloc (Nat.le_refl _) (.cells (rC b0 b1 b2 b3 sum pl ln) 56)
  have k0 := Blk.new w (rC b0 b1 b2 b3 sum pl ln) 56
  have hn0 := NB.below hb0
  have hkb0 : KB B w (w.alloc (.cells (rC b0 b1 b2 b3 sum pl ln) 56)) := ⟨(Below.refl B w).alloc hB _, hn0⟩
  obtain ⟨v1, w1, hr1, hb1, hk1⟩ := app_src [b0, b1, b2, b3] w.heap.size 4 (h.later hb0) (Nat.le_trans hB hb0.size) (by simp) (by simp; omega) (fun j u hu => by
    rw [k0.cell j]
    match j, hu with
    | 0, hu => exact hu
    | 1, hu => exact hu
    | 2, hu => exact hu
    | 3, hu => exact hu
    | j + 4, hu => cases hu) (by simp)
  have K1 := k0.nb hk1.nb tr_ne
  have HR1 := hide hr1
  have HB1 := hide hb1
  have HK1 := hide (hkb0.trans hk1)
  have c4 := K1.cell 4
  have c5 := K1.cell 5
  have c6 := K1.cell 6
  simp at c4 c5 c6
  have CA := hide (fun (v : Value) (ys : List UInt8) (x : Int) w' => appendNumber_any v ys x 4 B w' (by omega))
  have i0 := ix3_0
  have i1 := ix3_1
  have i2 := ix3_2
  clear hr1 hb1 hk1 K1 h hb0 k0 hn0 hkb0
  go_enter Tryd.func55, Tryd.ntmps55
  go_wp2_with (at_builtin; refine Lib.wpList_append_run _ rfl _ _ _ _ rfl _ _ rfl rfl _ _ HR1.out ?_)
  refine wp_loop_rounds 4 ?_
  rw [rounds_succ]
  go_wp2_with fail
  refine (CA.out _ _ _ _ ?_ ?_ HB1.out (Nat.le_trans hB HK1.out.size) (by simp; omega)).mono ?_
  · omega
  · omega
  rintro e w2 ⟨v2, rfl, hb2, hk2⟩
  have HB2 := hide hb2
  have HK2 := hide (HK1.out.trans hk2)
  clear hb2 hk2
  go_wp2_with fail
  rw [rounds_succ]
  go_wp2_with fail
  refine (CA.out _ _ _ _ ?_ ?_ HB2.out (Nat.le_trans hB HK2.out.size) (by simp [nbT_len]; omega)).mono ?_
  · omega
  · omega
  rintro e w3 ⟨v3, rfl, hb3, hk3⟩
  have HB3 := hide hb3
  have HK3 := hide (HK2.out.trans hk3)
  clear hb3 hk3
  go_wp2_with fail
  rw [rounds_succ]
  go_wp2_with fail
  refine (CA.out _ _ _ _ ?_ ?_ HB3.out (Nat.le_trans hB HK3.out.size) (by simp [nbT_len]; omega)).mono ?_
  · omega
  · omega
  rintro e w4 ⟨v4, rfl, hb4, hk4⟩
  have HB4 := hide hb4
  have HK4 := hide (HK3.out.trans hk4)
  clear hb4 hk4
  go_wp2_with fail
  rw [rounds_succ]
  go_wp2_with fail
  go_ret
  exact ⟨_, rfl, HB4.out, HK4.out⟩
/- bytes of another row copied over bytes of a row -/
theorem copy_row {w : World} {B B2 g cap n p cap2 q : Nat} {v2 : Value} {A M D zs : List UInt8} (h : BRow w B (.slice (some ⟨g, 0, none⟩) n cap) (A ++ (M ++ D))) (hn : (A ++ (M ++ D)).length = n) (hp : A.length = p) (hM : M.length = zs.length) (hq : n - p = q) (hz : 0 < zs.length)
    (h2 : BRow w B2 v2 zs) :
    ∃ w2, (Builtin.copy_ #[45, 45] 3 #[.slice (some ⟨g, p, none⟩) q cap2, v2]).run Tryd.prog w = .ok (goInt zs.length) w2 ∧ BRow w2 B (.slice (some ⟨g, 0, none⟩) n cap) (A ++ (zs ++ D)) ∧ w2.heap.size = w.heap.size ∧ (∀ k, k ≠ g → w2.heap[k]? = w.heap[k]?) ∧ w2.os = w.os ∧ w2.tape = w.tape ∧ w2.output = w.output := by
  obtain ⟨i0, hi, hz0, hz1, hz2⟩ := info_parts5 info_u8
  unfold BRow at h
  rw [hn] at h
  obtain ⟨hxl, ⟨h0, _⟩ | ⟨g', cap', cur, hv, hbg, hgc, hnc, hcm, hcs, htake⟩⟩ := h
  · cases h0
  injection hv with hv1 hv2 hv3
  injection hv1 with hv1
  injection hv1 with hv1
  subst hv1
  subst hv3
  have h2' := h2
  obtain ⟨_, ⟨_, h20⟩ | ⟨g2, cap3, cur2, hv2, _, hg2, _⟩⟩ := h2'
  · omega
  subst hv2
  simp only [List.length_append] at hn
  have hr := run_copy_row (P := Tryd.prog) w 45 45 3 5 g p q cap2 ⟨g2, 0, none⟩ zs.length cap3 cur 5 (zs.map bcell) Tryd.underlying45 (by rw [hi]; simp [hz1]) hgc (by rw [List.length_map]; exact (Nat.min_eq_left (by omega)).symm)
    (fun j u hu => by
      have hjl : j < zs.length := by have := (List.getElem?_eq_some_iff.1 hu).1; simpa using this
      rw [Go.WideShapes.add_plain, Nat.zero_add, World.ownsRow.cellAt h2 j (by omega)]; exact hu) (by rw [List.length_map, hcs]; omega) (bcells_one _)
  rw [List.length_map] at hr
  refine ⟨_, hr, ?_, by simp, fun k hk => setRow_other _ _ _ _ hk, rfl, rfl, rfl⟩
  unfold BRow
  have hln : (A ++ (zs ++ D)).length = n := by simp; omega
  rw [hln]
  refine ⟨by rw [List.length_map, hln]; omega, Or.inr ⟨g, cap, _, rfl, hbg, setRow_heap _ _ _ _ _ _ hgc, hnc, hcm, ?_, ?_⟩⟩
  · simp; rw [hcs]; omega
  · rw [Nat.mul_one] at htake ⊢
    have e1 : cur.toList.take p = A.map bcell := by
      have := congrArg (List.take p) htake
      rw [List.take_take, Nat.min_eq_left (by omega), List.map_append, List.take_left' (by simp [hp])] at this
      exact this
    have e2 : (cur.toList.drop (p + zs.length)).take (n - (p + zs.length)) = D.map bcell := by
      have := congrArg (List.drop (p + zs.length)) htake
      rw [List.drop_take, List.map_append, List.map_append, ← List.append_assoc, List.drop_left' (by simp; omega)] at this
      exact this
    rw [List.toList_toArray, e1]
    have hl1 : (A.map bcell ++ zs.map bcell).length = p + zs.length := by simp; omega
    rw [List.take_append, hl1, List.take_of_length_le (by rw [hl1]; omega), e2, List.map_append, List.map_append, List.append_assoc]
end Go.Proofs.YtgmmhlpdkoiheaaDoor
