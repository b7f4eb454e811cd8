/-
  What the reference's composite answers (made by g10qc.py).
-/
import Derived.Test.YtcbmjoocehhhnaaDoorG10Qa
namespace Go.Proofs.YtcbmjoocehhhnaaDoor
open Go.RowKit Go.Deep
set_option linter.unusedVariables false
set_option linter.unusedSimpArgs false

theorem step_append_run {P : Program} (w : World) {ops : Array Oper} {o : Oper} {a : Act} {K : Act → World → Prop} {Q : Exit → Act → World → Prop} {E : Prop} (hgd : o.guard = none) (s x : Operand) (t tn : TypeId)
    (ho : o.op = .call { callee := .builtin .append, args := #[s, x], argTypes := #[t, tn] }) (vs vx : Value) (hs : a.eval s = vs) (hx : a.eval x = vx)
    (v' : Value) (w' : World) (hr : (Builtin.append_ #[t, tn] o.type #[vs, vx]).run P w = .ok v' w') (h : K (a.put o.dst v') w') :
    if Region.wanted o (yielded ops a.tmps) = true then Oper.wp P o a w K Q else E := by
  rw [if_pos (by simp [Region.wanted, hgd])]
  exact Lib.wp_append_run w s x t tn ho vs vx hs hx v' w' hr h
theorem app_i2 {W : World} {B k : Nat} {v : Value} {zs : List Int} (x : Int) (h : IRow W B v zs) (hz : zs.length = k) (hB : B ≤ W.heap.size) (hl : k ≤ 1000000) :
    ∃ g cap w2, (Builtin.append_ #[38, 38] 38 #[v, .slice (some ⟨W.heap.size, 0, none⟩) 1 1]).run Tryd.prog (W.alloc (.cells #[.int .i64 x] 3)) = .ok (.slice (some ⟨g, 0, none⟩) (k + 1) cap) w2 ∧
      IRow w2 B (.slice (some ⟨g, 0, none⟩) (k + 1) cap) (zs ++ [x]) ∧ (v.ownBlock = some g ∨ W.heap.size ≤ g) ∧ W.heap.size ≤ w2.heap.size ∧ (∀ j, j < W.heap.size → v.ownBlock ≠ some j → w2.heap[j]? = W.heap[j]?) ∧ Below B W w2 := by
  obtain ⟨i0, hi, hz0, hz1, hz2⟩ := info_parts5 info_int
  subst hz
  obtain ⟨g, cap, w2, hr, ho, hg, hat, _⟩ := run_append_lies (P := Tryd.prog) (W.alloc (.cells #[.int .i64 x] 3)) 38 38 B 3 i0 _ 1 8 Tryd.underlying38 hi hz0 hz1 hz2 rfl (by decide) v zs.length (zs.map (Value.int .i64)) (World.ownsRow.alloc h _) ⟨W.heap.size, 0, none⟩ 1 1 [.int .i64 x] (by simp)
    (fun j u hu => by rw [Go.WideShapes.add_plain, Nat.zero_add, World.cell?_alloc_at _ _ _ _ rfl]; simpa using hu) (fun u hu => by simp at hu; subst hu; rfl) (by decide) (by unfold maxLen; omega) (by omega) (by simp; omega) (W.heap.size + 1) (by simp)
  refine ⟨g, cap, w2, hr, ?_, ?_, ?_, ?_, ((Below.refl B W).alloc hB _).grown hg (by simp; omega) fun k hk' => (World.ownsRow.lt h k hk').1⟩
  · unfold IRow
    rw [List.map_append, List.length_append]
    exact ho
  · rcases hat with hat | hat
    · exact Or.inl hat
    · exact Or.inr (by omega)
  · have := hg.size; simp at this; omega
  · intro j hj hne
    rw [hg.block j (by simp; omega) (Ne.symm hne)]
    exact ((Below.refl W.heap.size W).alloc (Nat.le_refl _) (.cells #[.int .i64 x] 3)).block j hj
structure Lq (w : World) (r y B : Nat) (v1 v2 : Value) (z1 z2 : List Int) (wr : World) : Prop where
  kr : Blk wr r zs3 40
  ky : Blk wr y #[.int .i64 0, v1, v2] 40
  r1 : IRow wr B v1 z1
  r2 : IRow wr B v2 z2
  dj : ∀ g, v1.ownBlock = some g → v2.ownBlock ≠ some g
  bl : Below w.heap.size w wr
  yb : y < B
  rb : r < B
  ry : r ≠ y
  bb : B ≤ wr.heap.size
  wb : w.heap.size ≤ B
  rw : w.heap.size ≤ r
  yw : w.heap.size ≤ y
theorem Lq.same {w : World} {r y B : Nat} {v1 v2 : Value} {z1 z2 : List Int} {wr u : World} (L : Lq w r y B v1 v2 z1 z2 wr) (hb : Below wr.heap.size wr u) : Lq w r y B v1 v2 z1 z2 u :=
  ⟨L.kr.below hb, L.ky.below hb, L.r1.kept fun g _ hl => hb.block g hl, L.r2.kept fun g _ hl => hb.block g hl, L.dj, below_t5 L.bl hb, L.yb, L.rb, L.ry, Nat.le_trans L.bb hb.size, L.wb, L.rw, L.yw⟩
theorem Lq.app1 {w : World} {r y B k : Nat} {v1 v2 : Value} {z1 z2 : List Int} {W : World} (L : Lq w r y B v1 v2 z1 z2 W) (X : Int) (hk : z1.length = k) (hN : k ≤ 5000) :
    ∃ g cap w', (Builtin.append_ #[38, 38] 38 #[v1, .slice (some ⟨W.heap.size, 0, none⟩) 1 1]).run Tryd.prog (W.alloc (.cells #[.int .i64 X] 3)) = .ok (.slice (some ⟨g, 0, none⟩) (k + 1) cap) w' ∧
      Blk w' y #[.int .i64 0, v1, v2] 40 ∧ Lq w r y B (.slice (some ⟨g, 0, none⟩) (k + 1) cap) v2 (z1 ++ [X]) z2 (w'.setCell ⟨y, 1, none⟩ (.slice (some ⟨g, 0, none⟩) (k + 1) cap)) := by
  obtain ⟨g, cap, w', hr, hrow, hown, hsz, hfar, hbel⟩ := app_i2 X L.r1 hk L.bb (by omega)
  have ky' : Blk w' y #[.int .i64 0, v1, v2] 40 := by
    have hlt := L.ky.lt
    unfold Blk
    rw [hfar y hlt (fun e => by have := L.r1.own y e; have := L.yb; omega)]
    exact L.ky
  have kr' : Blk w' r zs3 40 := by
    have hlt := L.kr.lt
    unfold Blk
    rw [hfar r hlt (fun e => by have := L.r1.own r e; have := L.rb; omega)]
    exact L.kr
  have hset : But y w' (w'.setCell ⟨y, 1, none⟩ (.slice (some ⟨g, 0, none⟩) (k + 1) cap)) := But.setCell _ _ _ _
  have hbw : Below w.heap.size w w' := L.bl.trans (hbel.mono L.wb)
  refine ⟨g, cap, w', hr, ky', ⟨hset.blk kr' L.ry, ?_, ?_, ?_, ?_, hset.below hbw L.yw, L.yb, L.rb, L.ry, by simp [World.setCell]; exact Nat.le_trans L.bb hsz, L.wb, L.rw, L.yw⟩⟩
  · exact Blk.set ky' 1 (.slice (some ⟨g, 0, none⟩) (k + 1) cap)
  · exact irow_set hrow L.yb _
  · exact irow_set (L.r2.kept fun j hj hlt => hfar j hlt (fun e' => L.dj j e' hj)) L.yb _
  · intro j hj hj2
    have hjg : g = j := by simpa [Value.ownBlock] using hj
    subst hjg
    rcases hown with h1 | h1
    · exact L.dj g h1 hj2
    · have := (L.r2.own g hj2).2; omega
theorem Lq.app2 {w : World} {r y B k : Nat} {v1 v2 : Value} {z1 z2 : List Int} {W : World} (L : Lq w r y B v1 v2 z1 z2 W) (X : Int) (hk : z2.length = k) (hN : k ≤ 5000) :
    ∃ g cap w', (Builtin.append_ #[38, 38] 38 #[v2, .slice (some ⟨W.heap.size, 0, none⟩) 1 1]).run Tryd.prog (W.alloc (.cells #[.int .i64 X] 3)) = .ok (.slice (some ⟨g, 0, none⟩) (k + 1) cap) w' ∧
      Blk w' y #[.int .i64 0, v1, v2] 40 ∧ Lq w r y B v1 (.slice (some ⟨g, 0, none⟩) (k + 1) cap) z1 (z2 ++ [X]) (w'.setCell ⟨y, 2, none⟩ (.slice (some ⟨g, 0, none⟩) (k + 1) cap)) := by
  obtain ⟨g, cap, w', hr, hrow, hown, hsz, hfar, hbel⟩ := app_i2 X L.r2 hk L.bb (by omega)
  have ky' : Blk w' y #[.int .i64 0, v1, v2] 40 := by
    have hlt := L.ky.lt
    unfold Blk
    rw [hfar y hlt (fun e => by have := L.r2.own y e; have := L.yb; omega)]
    exact L.ky
  have kr' : Blk w' r zs3 40 := by
    have hlt := L.kr.lt
    unfold Blk
    rw [hfar r hlt (fun e => by have := L.r2.own r e; have := L.rb; omega)]
    exact L.kr
  have hset : But y w' (w'.setCell ⟨y, 2, none⟩ (.slice (some ⟨g, 0, none⟩) (k + 1) cap)) := But.setCell _ _ _ _
  have hbw : Below w.heap.size w w' := L.bl.trans (hbel.mono L.wb)
  refine ⟨g, cap, w', hr, ky', ⟨hset.blk kr' L.ry, ?_, ?_, ?_, ?_, hset.below hbw L.yw, L.yb, L.rb, L.ry, by simp [World.setCell]; exact Nat.le_trans L.bb hsz, L.wb, L.rw, L.yw⟩⟩
  · exact Blk.set ky' 2 (.slice (some ⟨g, 0, none⟩) (k + 1) cap)
  · exact irow_set (L.r1.kept fun j hj hlt => hfar j hlt (fun e' => L.dj j hj e')) L.yb _
  · exact irow_set hrow L.yb _
  · intro j hj hj2
    have hjg : g = j := by simpa [Value.ownBlock] using hj2
    subst hjg
    rcases hown with h1 | h1
    · exact L.dj g hj h1
    · have := (L.r1.own g hj).2; omega
def CmR (w : World) (l : List UInt8) (R : Option (List Nat)) (e : Ending) (w' : World) : Prop := match R with
  | some ps => ∃ a1 c1 a2 c2, e = .returned (.tuple #[.agg #[.int .i64 0, .slice a1 ps.length c1, .slice a2 ps.length c2], .bool true]) ∧ Lst w' a1 (ints (prV l ps)) ∧ Lst w' a2 (ints ps) ∧ Below w.heap.size w w' ∧ (∀ b o, a1 = some ⟨b, o, none⟩ → w.heap.size ≤ b) ∧ ∀ b o, a2 = some ⟨b, o, none⟩ → w.heap.size ≤ b
  | none => ∃ a1 n1 c1 a2 n2 c2, e = .returned (.tuple #[.agg #[.int .i64 0, .slice a1 n1 c1, .slice a2 n2 c2], .bool false]) ∧ Below w.heap.size w w'
theorem rc_fin {R : Ending → World → Prop} {a : Act} {V : World} {B : Nat} {x y z : Value} {t : Bool} (hk : Blk V B #[x, y, z] 40) (h4 : a.tmps[2]?.getD undef = .pointer (some ⟨B, 0, none⟩)) (h5 : a.tmps[3]?.getD undef = .bool t) (hd : a.defers = []) (h : R (.returned (.tuple #[.agg #[x, y, z], .bool t])) V) :
    bodyPost Tryd.prog Tryd.f35 R Exit.ret a V := by
  obtain ⟨⟨f0, f1, f2⟩, _⟩ := hk.three
  refine bodyPost_ret (v := .tuple #[.agg #[x, y, z], .bool t]) ?_ hd h
  simp [results, Tryd.results35, go_sem, f0, f1, f2, h4, h5]
theorem own_ge {w W : World} {B g n c b o : Nat} {zs : List Int} (h : IRow W B (.slice (some ⟨g, 0, none⟩) n c) zs) (hB : w.heap.size ≤ B) (e : (some ⟨g, 0, none⟩ : Option Addr) = some ⟨b, o, none⟩) : w.heap.size ≤ b := by
  have h1 := (h.own g rfl).1
  have h2 : g = b := by simpa using (congrArg (fun x => x.map Addr.block) e)
  omega
theorem prV_snoc (l : List UInt8) (ps : List Nat) (x : Nat) : prV l (ps ++ [x]) = prV l ps ++ [n2 l x] := by simp [prV]
theorem prV_len (l : List UInt8) (ps : List Nat) : (prV l ps).length = ps.length := by simp [prV]
theorem rc_begin (w : World) : ∃ V, V = (w.alloc (.cells zs3 40)).alloc (.cells zs3 40) ∧ Lq w w.heap.size (w.heap.size + 1) (w.heap.size + 2) (.slice none 0 0) (.slice none 0 0) [] [] V := by
  refine ⟨_, rfl, ?_, ?_, IRow.nil _ _, IRow.nil _ _, fun g hg => by simp [Value.ownBlock] at hg, ?_, by omega, by omega, by omega, by simp, by omega, Nat.le_refl _, by omega⟩
  · exact (Blk.new w _ _).below ((Below.refl _ _).alloc (Nat.le_refl _) _)
  · have := Blk.new (w.alloc (.cells zs3 40)) zs3 40
    rwa [show (w.alloc (.cells zs3 40)).heap.size = w.heap.size + 1 by simp] at this
  · exact ((Below.refl _ _).alloc (Nat.le_refl _) _).alloc (by simp) _
set_option maxRecDepth 8000 in
set_option maxHeartbeats 8000000 in
theorem rcomp_any (s : ByteArray) (w : World) (hs : s.size ≤ 1000000) (hN : 10 ≤ s.size) :
    Calls Tryd.prog 35 #[.string s] w (CmR w s.data.toList (comV s.data.toList)) := by
  rw [comV_eq]
  obtain ⟨R, hR⟩ : ∃ R, cmpA s.data.toList s.size 64 10 [] = R := ⟨_, rfl⟩
  rw [hR]
  have HR := hide hR
  have hs' : (s.size : Int) ≤ 1000000 := by omega
  have CU := hide (fun (k : Nat) (z : Int) (w : World) (hz : z = (k : Int)) (h : k + 2 ≤ s.size) => ru2_any s k z w hz h (by omega))
  have CSc := hide (fun (f : Nat) (w : World) (h1 : f ≤ 65535) => rscaled_any f w h1)
  obtain ⟨V, hV, hL0⟩ := rc_begin w
  have HL0 := hide hL0
  clear hR hL0
  go_enter Tryd.func35, Tryd.ntmps35
  go_upto_region 2 with (fail)
  rw [← hV]
  clear hV
  go_wp2_with fail
  generalize hRB : w.heap.size = rb at HL0 ⊢
  generalize hYB : rb + 1 = yb at HL0 ⊢
  generalize hBB : rb + 2 = bb at HL0
  clear hRB hYB hBB
  go_loopg [5] 64 (fun g va wr => ∃ (m a : Nat) (acc : List Nat) (v1 v2 : Value), va = .int .i64 (a : Int) ∧ Hid (g = m ∧ acc.length + m = 64 ∧ a ≤ s.size ∧ cmpA s.data.toList s.size m a acc = R ∧ Lq w rb yb bb v1 v2 (ints (prV s.data.toList acc)) (ints acc) wr))
  case atStart => exact ⟨64, 10, [], _, _, rfl, hide ⟨rfl, rfl, hN, HR.out, HL0.out⟩⟩
  case round =>
    obtain ⟨m, a, acc, v1, v2, rfl, HV⟩ := hrel
    obtain ⟨hg, k1, k2, k3, k4⟩ := HV.out
    have HG := hide hg
    have K1 := hide k1
    have K3 := hide k3
    have HL := hide k4
    obtain ⟨ad1, cap1, hv1, _⟩ := k4.r1.lst
    obtain ⟨ad2, cap2, hv2, _⟩ := k4.r2.lst
    rw [ints_len, prV_len] at hv1
    rw [ints_len] at hv2
    subst hv1
    subst hv2
    have hal : acc.length ≤ 64 := by omega
    have hal' : (acc.length : Int) ≤ 64 := by omega
    have ha0 : (0 : Int) ≤ (a : Int) := by omega
    have ha1 : (a : Int) ≤ 1000000 := by omega
    have hyl := k4.ky.lt
    obtain ⟨⟨y0, y1, y2⟩, x0, x1, x2⟩ := k4.ky.three
    clear HV hg k1 k3 k4 HL0 HR
    by_cases h4 : a + 4 ≤ s.size
    case neg =>
      have h4' : (s.size : Int) < (a : Int) + 4 := by omega
      have h4d : decide ((s.size : Int) < (a : Int) + 4) = true := by simpa using h4'
      have E := hide (show comW s.data.toList R = none by rw [← K3.out, cmp_short h4]; rfl)
      have kr3 := HL.out.kr.three
      obtain ⟨⟨r0, r1, r2⟩, z0, z1, z2⟩ := kr3
      go_wp2_with fail
      refine rc_fin (t := false) (st3 HL.out.kr (.int .i64 0) (.slice none 0 0) (.slice none 0 0)) rfl rfl rfl ?_
      rw [E.out]
      exact ⟨none, 0, 0, none, 0, 0, rfl, below_same (st3_below HL.out.bl HL.out.rw (.int .i64 0) (.slice none 0 0) (.slice none 0 0)) rfl rfl rfl rfl⟩
    have h4' : ¬ (s.size : Int) < (a : Int) + 4 := by omega
    have h4d : decide ((s.size : Int) < (a : Int) + 4) = false := by simpa using h4'
    cases m with
    | zero =>
      have hd : ((acc.length : Int) == 64) = true := by have := K1.out; rw [beq_iff_eq]; omega
      have E := hide (show comW s.data.toList R = none by rw [← K3.out]; rfl)
      have kr3 := HL.out.kr.three
      obtain ⟨⟨r0, r1, r2⟩, z0, z1, z2⟩ := kr3
      go_wp2_with fail
      refine rc_fin (t := false) (st3 HL.out.kr (.int .i64 0) (.slice none 0 0) (.slice none 0 0)) rfl rfl rfl ?_
      rw [E.out]
      exact ⟨none, 0, 0, none, 0, 0, rfl, below_same (st3_below HL.out.bl HL.out.rw (.int .i64 0) (.slice none 0 0) (.slice none 0 0)) rfl rfl rfl rfl⟩
    | succ m =>
      have hd : ((acc.length : Int) == 64) = false := by have := K1.out; rw [beq_eq_false_iff_ne]; omega
      have hf := n2_lt s.data.toList a
      have CF := hide (fun z w (hz : z = (a : Int)) => CU.out a z w hz (by omega))
      have CP := hide (fun z w (hz : z = ((a + 2 : Nat) : Int)) => CU.out (a + 2) z w hz (by omega))
      have CS := hide (fun w => CSc.out (n2 s.data.toList a) w (by omega))
      go_wp2_with fail
      refine (CF.out _ _ rfl).mono ?_
      rintro e wy ⟨rfl, m0, hy⟩
      have HLa : Hid (Lq w rb yb bb (.slice ad1 acc.length cap1) (.slice ad2 acc.length cap2) (ints (prV s.data.toList acc)) (ints acc) wy) := hide (HL.out.same (by rw [hy]; exact below_drewN' _ _))
      clear hy HL y0 y1 y2 x0 x1 x2 hyl
      have q9 : wy.cell? ⟨yb, 1, none⟩ = some (.slice ad1 acc.length cap1) := HLa.out.ky.cell 1
      have hszy := HLa.out.ky.lt
      have hlz1 : (ints (prV s.data.toList acc)).length = acc.length := by rw [ints_len, prV_len]
      have hlz2 : (ints acc).length = acc.length := ints_len acc
      have HZL := hide (And.intro hlz1 hlz2)
      obtain ⟨X, hX⟩ : ∃ X : Int, ((n2 s.data.toList (a + 2) : Nat) : Int) = X := ⟨_, rfl⟩
      rw [hX] at CP
      have HX := hide hX
      obtain ⟨LN, hLN⟩ : ∃ LN, acc.length = LN := ⟨_, rfl⟩
      have HLN := hide hLN
      rw [hLN] at q9 HLa HZL hal hal' K1 hd ⊢
      clear hX hlz1 hlz2 hLN
      have hw2 : IntKind.i64.wrap ((a : Int) + 2) = (a : Int) + 2 := by rw [IntKind.wrap_i64]; omega
      go_wp2_with fail
      go_region_law ((first | (go_simp; go_at_call 29; refine (CP.out _ _ (by omega)).mono ?_; rintro e wz ⟨rfl, m1, hw⟩; have hLy := Lq.same HLa.out (u := wz) (by rw [hw]; first | exact below_drewN' _ m1 | exact below_t5 (below_drewN' _ _) (below_drewN' _ m1) | exact below_t5 (Below.refl _ _).drew (below_drewN' _ m1)); clear hw; obtain ⟨g, cap, w4, hr, hk4, hl4⟩ := Lq.app1 hLy X HZL.out.1 (by omega); have HR := hide hr; have q9 : wz.cell? ⟨yb, 1, none⟩ = some (.slice ad1 LN cap1) := hLy.ky.cell 1; have hszy := hLy.ky.lt; have HQ : Hid (w4.cell? ⟨yb, 1, none⟩ = some (.slice ad1 LN cap1)) := hide (hk4.cell 1); have HZ := hide (hk4.frozen 1); have HT := hide hk4.lt; have HL4 := hide hl4; clear hLy hr hk4 hl4) | (refine step_append_run _ (by rfl) _ _ _ _ rfl _ _ (by rfl) (by rfl) _ _ HR.out ?_; clear q9; have q9 := HQ.out; have z9 := HZ.out; have t9 := HT.out)))
      all_goals
        have HL5 := HL4
        generalize w4.setCell ⟨yb, 1, none⟩ (.slice (some ⟨g, 0, none⟩) (LN + 1) cap) = w5 at HL5 ⊢
        obtain ⟨g2, cp2, w6, hr2, hk6, hl6⟩ := Lq.app2 HL5.out ((a : Int) + 2) HZL.out.2 (by omega)
        have HR2 := hide hr2
        have u2 : w5.cell? ⟨yb, 2, none⟩ = some (.slice ad2 LN cap2) := HL5.out.ky.cell 2
        have u3 := HL5.out.ky.lt
        have u4 : w6.cell? ⟨yb, 2, none⟩ = some (.slice ad2 LN cap2) := hk6.cell 2
        have u5 := hk6.frozen 2
        have u6 := hk6.lt
        have HL6 := hide hl6
        clear hr2 hk6 hl6 HL4 HLa HQ HZ HT HR HL5 q9 z9 t9 hszy
        go_upto_region 8 with (at_builtin; refine Lib.wpList_append_run _ rfl _ _ _ _ rfl _ _ rfl rfl _ _ HR2.out ?_)
        clear u2 u3 u4 u5 u6
        generalize w6.setCell ⟨yb, 2, none⟩ (.slice (some ⟨g2, 0, none⟩) (LN + 1) cp2) = w7 at HL6 ⊢
        have HL : Hid (Lq w rb yb bb (.slice (some ⟨g, 0, none⟩) (LN + 1) cap) (.slice (some ⟨g2, 0, none⟩) (LN + 1) cp2) (ints (prV s.data.toList (acc ++ [a + 2]))) (ints (acc ++ [a + 2])) w7) := hide (by
          rw [prV_snoc, ints_snoc, ints_snoc, HX.out]
          exact HL6.out)
        clear HL6 HR2 HZL
        go_wp2_with fail
        refine (CS.out _).mono ?_
        rintro e wq ⟨rfl, hq⟩
        subst wq
        cases hm : mtx (n2 s.data.toList a) with
        | none =>
          have hsc : scV (n2 s.data.toList a) = -1 := by unfold scV; rw [hm]
          have E := hide (show comW s.data.toList R = none by rw [← K3.out, cmp_mtx hm]; rfl)
          rw [hsc]
          clear hm hsc
          have kr3 := HL.out.kr.three
          obtain ⟨⟨r0, r1, r2⟩, z0, z1, z2⟩ := kr3
          go_wp2_with fail
          refine rc_fin (t := false) (st3 HL.out.kr (.int .i64 0) (.slice none 0 0) (.slice none 0 0)) rfl rfl rfl ?_
          rw [E.out]
          exact ⟨none, 0, 0, none, 0, 0, rfl, below_same (st3_below HL.out.bl HL.out.rw (.int .i64 0) (.slice none 0 0) (.slice none 0 0)) rfl rfl rfl rfl⟩
        | some k =>
          have hsc : scV (n2 s.data.toList a) = (k : Int) := by unfold scV; rw [hm]
          have hk8 := mtx_le hm
          have hk8' : (k : Int) ≤ 8 := by omega
          have hk0 : (0 : Int) ≤ (k : Int) := by omega
          rw [hsc]
          have HM := hide hm
          clear hsc hm
          cases h1 : hb (n2 s.data.toList a) 1
          case false =>
            have b1 : bits .and .i64 ((n2 s.data.toList a : Nat) : Int) 1 = 0 := bit_f (m := 1) (by omega) (by omega) h1
            have hof : offs (n2 s.data.toList a) = 2 := by unfold offs; rw [h1]; rfl
            obtain ⟨AP, hAP⟩ : ∃ AP : Nat, AP = a + 4 + offs (n2 s.data.toList a) + k := ⟨_, rfl⟩
            have HAP := hide hAP
            have hEX : (a : Int) + (6 + (k : Int)) = (AP : Int) := by omega
            clear h1 hAP hof
            have hap1 : (AP : Int) ≤ 1000100 := by omega
            have hap0 : (0 : Int) ≤ (AP : Int) := by omega
            by_cases hle : AP ≤ s.size
            case neg =>
              have hle' : (s.size : Int) < (AP : Int) := by omega
              have E := hide (show comW s.data.toList R = none by rw [← K3.out, cmp_over HM.out (by rw [← HAP.out]; exact hle)]; rfl)
              have kr3 := HL.out.kr.three
              obtain ⟨⟨r0, r1, r2⟩, z0, z1, z2⟩ := kr3
              go_wp2_with fail
              refine rc_fin (t := false) (st3 HL.out.kr (.int .i64 0) (.slice none 0 0) (.slice none 0 0)) rfl rfl rfl ?_
              rw [E.out]
              exact ⟨none, 0, 0, none, 0, 0, rfl, below_same (st3_below HL.out.bl HL.out.rw (.int .i64 0) (.slice none 0 0) (.slice none 0 0)) rfl rfl rfl rfl⟩
            have hle' : ¬ (s.size : Int) < (AP : Int) := by omega
            cases h32 : hb (n2 s.data.toList a) 32
            case true =>
              obtain ⟨x32, d1, d2, d3⟩ := bit_t (f := n2 s.data.toList a) (m := 32) (by omega) (by omega) h32
              have d1 : bits .and .i64 ((n2 s.data.toList a : Nat) : Int) 32 = x32 := d1
              have E := hide (show cmpA s.data.toList s.size m AP (acc ++ [a + 2]) = R by rw [← K3.out, cmp_more HM.out (by rw [← HAP.out]; exact hle) h32, ← HAP.out])
              clear h32
              go_wp2_with fail
              go_roundg m
              case measure => have := HG.out; omega
              case rel => exact ⟨m, AP, acc ++ [a + 2], _, _, rfl, hide ⟨rfl, by rw [List.length_append, List.length_singleton, HLN.out]; have := K1.out; omega, hle, E.out, HL.out⟩⟩
            case false =>
              have d1 : bits .and .i64 ((n2 s.data.toList a : Nat) : Int) 32 = 0 := bit_f (m := 32) (by omega) (by omega) h32
              cases h256 : hb (n2 s.data.toList a) 256
              case false =>
                have d2 : bits .and .i64 ((n2 s.data.toList a : Nat) : Int) 256 = 0 := bit_f (m := 256) (by omega) (by omega) h256
                have E := hide (show comW s.data.toList R = if tailB s.data.toList AP = true then some (acc ++ [a + 2]) else none by rw [← K3.out, cmp_done HM.out (by rw [← HAP.out]; exact hle) h32 h256, ← HAP.out]; rfl)
                have CZ := hide (fun z' w (hz : z' = (AP : Int)) => rzeros_any s AP z' w hz hs (by omega))
                generalize tailB s.data.toList AP = t at CZ E
                clear h32 h256
                obtain ⟨⟨r0, r1, r2⟩, z0, z1, z2⟩ := HL.out.kr.three
                obtain ⟨⟨y0, y1, y2⟩, _, _, _⟩ := HL.out.ky.three
                have hry := HL.out.ry
                have hrl := HL.out.kr.lt
                have hyl := HL.out.ky.lt
                go_wp2_with fail
                go_region_held3 (fun x => x.cell? ⟨yb, 0, none⟩ = some (.int .i64 0) ∧ x.cell? ⟨yb, 1, none⟩ = some (.slice (some ⟨g, 0, none⟩) (LN + 1) cap) ∧ x.cell? ⟨yb, 2, none⟩ = some (.slice (some ⟨g2, 0, none⟩) (LN + 1) cp2)) (first | go_keep | exact ⟨by rw [cell_other (Ne.symm hry), cell_other (Ne.symm hry), cell_other (Ne.symm hry)]; exact y0, by rw [cell_other (Ne.symm hry), cell_other (Ne.symm hry), cell_other (Ne.symm hry)]; exact y1, by rw [cell_other (Ne.symm hry), cell_other (Ne.symm hry), cell_other (Ne.symm hry)]; exact y2⟩) ((go_at_call 43; refine (CZ.out _ _ (by omega)).mono ?_; rintro e wv ⟨rfl, hv⟩; subst wv))
                go_wp2_with fail
                refine rc_fin (t := t) (st3 HL.out.kr (.int .i64 0) (.slice (some ⟨g, 0, none⟩) (LN + 1) cap) (.slice (some ⟨g2, 0, none⟩) (LN + 1) cp2)) rfl (by rfl) rfl ?_
                rw [E.out]
                cases t
                · exact ⟨_, _, _, _, _, _, rfl, below_same (st3_below HL.out.bl HL.out.rw (.int .i64 0) (.slice (some ⟨g, 0, none⟩) (LN + 1) cap) (.slice (some ⟨g2, 0, none⟩) (LN + 1) cp2)) rfl rfl rfl rfl⟩
                · have hi1 := irow_set (o := 2) (irow_set (o := 1) (irow_set (o := 0) HL.out.r1 HL.out.rb (.int .i64 0)) HL.out.rb (.slice (some ⟨g, 0, none⟩) (LN + 1) cap)) HL.out.rb (.slice (some ⟨g2, 0, none⟩) (LN + 1) cp2)
                  have hi2 := irow_set (o := 2) (irow_set (o := 1) (irow_set (o := 0) HL.out.r2 HL.out.rb (.int .i64 0)) HL.out.rb (.slice (some ⟨g, 0, none⟩) (LN + 1) cap)) HL.out.rb (.slice (some ⟨g2, 0, none⟩) (LN + 1) cp2)
                  obtain ⟨_, _, e1, l1, _⟩ := hi1.lst
                  obtain ⟨_, _, e2, l2, _⟩ := hi2.lst
                  simp only [Value.slice.injEq] at e1 e2
                  obtain ⟨rfl, _, rfl⟩ := e1
                  obtain ⟨rfl, _, rfl⟩ := e2
                  exact ⟨_, _, _, _, by rw [List.length_append, List.length_singleton, HLN.out], l1, l2, below_same (st3_below HL.out.bl HL.out.rw (.int .i64 0) (.slice (some ⟨g, 0, none⟩) (LN + 1) cap) (.slice (some ⟨g2, 0, none⟩) (LN + 1) cp2)) rfl rfl rfl rfl, fun b o h => own_ge HL.out.r1 HL.out.wb h, fun b o h => own_ge HL.out.r2 HL.out.wb h⟩
              case true =>
                obtain ⟨xq, d2, d3, d4⟩ := bit_t (f := n2 s.data.toList a) (m := 256) (by omega) (by omega) h256
                have d2 : bits .and .i64 ((n2 s.data.toList a : Nat) : Int) 256 = xq := d2
                by_cases hi2 : AP + 2 ≤ s.size
                case neg =>
                  have hi2' : (s.size : Int) < (AP : Int) + 2 := by omega
                  have E := hide (show comW s.data.toList R = none by
                    rw [← K3.out, cmp_ins HM.out (by rw [← HAP.out]; exact hle) h32 h256, ← HAP.out]
                    unfold insV
                    rw [if_neg (fun hh => hi2 hh.1)]; rfl)
                  clear h32 h256
                  have kr3 := HL.out.kr.three
                  obtain ⟨⟨r0, r1, r2⟩, z0, z1, z2⟩ := kr3
                  go_wp2_with fail
                  refine rc_fin (t := false) (st3 HL.out.kr (.int .i64 0) (.slice none 0 0) (.slice none 0 0)) rfl rfl rfl ?_
                  rw [E.out]
                  exact ⟨none, 0, 0, none, 0, 0, rfl, below_same (st3_below HL.out.bl HL.out.rw (.int .i64 0) (.slice none 0 0) (.slice none 0 0)) rfl rfl rfl rfl⟩
                have hi2' : ¬ (s.size : Int) < (AP : Int) + 2 := by omega
                have hQ := n2_lt s.data.toList AP
                have CI := hide (fun z' w (hz : z' = (AP : Int)) => CU.out AP z' w hz hi2)
                have E := hide (show comW s.data.toList R = if tailB s.data.toList (AP + 2 + n2 s.data.toList AP) = true then some (acc ++ [a + 2]) else none by
                  rw [← K3.out, cmp_ins HM.out (by rw [← HAP.out]; exact hle) h32 h256, ← HAP.out]
                  unfold insV
                  by_cases hi3 : AP + 2 + n2 s.data.toList AP ≤ s.size
                  · rw [if_pos ⟨hi2, hi3⟩]; rfl
                  · rw [if_neg (fun hh => hi3 hh.2)]
                    have : tailB s.data.toList (AP + 2 + n2 s.data.toList AP) = false := by unfold tailB; rw [decide_eq_false (by rw [← Lib.size_eq]; exact hi3)]; rfl
                    rw [this]; rfl)
                obtain ⟨AQ, hAQ⟩ : ∃ AQ, AQ = AP + 2 + n2 s.data.toList AP := ⟨_, rfl⟩
                have CZ := hide (fun z' w (hz : z' = (AQ : Int)) => rzeros_any s AQ z' w hz hs (by omega))
                rw [← hAQ] at E
                have hEQ : (AP : Int) + (2 + ((n2 s.data.toList AP : Nat) : Int)) = (AQ : Int) := by omega
                have hq1 : ((n2 s.data.toList AP : Nat) : Int) ≤ 65535 := by omega
                generalize n2 s.data.toList AP = Q at CI hEQ hq1
                generalize tailB s.data.toList AQ = t at CZ E
                clear h32 h256 hAQ hQ
                go_wp2_with fail
                refine (CI.out _ _ rfl).mono ?_
                rintro e wq ⟨rfl, m2, hw⟩
                replace HL := hide (HL.out.same (u := wq) (by rw [hw]; exact below_drewN' _ m2))
                clear hw
                obtain ⟨⟨r0, r1, r2⟩, z0, z1, z2⟩ := HL.out.kr.three
                obtain ⟨⟨y0, y1, y2⟩, _, _, _⟩ := HL.out.ky.three
                have hry := HL.out.ry
                have hrl := HL.out.kr.lt
                have hyl := HL.out.ky.lt
                go_wp2_with fail
                go_region_held3 (fun x => x.cell? ⟨yb, 0, none⟩ = some (.int .i64 0) ∧ x.cell? ⟨yb, 1, none⟩ = some (.slice (some ⟨g, 0, none⟩) (LN + 1) cap) ∧ x.cell? ⟨yb, 2, none⟩ = some (.slice (some ⟨g2, 0, none⟩) (LN + 1) cp2)) (first | go_keep | exact ⟨by rw [cell_other (Ne.symm hry), cell_other (Ne.symm hry), cell_other (Ne.symm hry)]; exact y0, by rw [cell_other (Ne.symm hry), cell_other (Ne.symm hry), cell_other (Ne.symm hry)]; exact y1, by rw [cell_other (Ne.symm hry), cell_other (Ne.symm hry), cell_other (Ne.symm hry)]; exact y2⟩) ((go_at_call 43; refine (CZ.out _ _ (by omega)).mono ?_; rintro e wv ⟨rfl, hv⟩; subst wv))
                go_wp2_with fail
                refine rc_fin (t := t) (st3 HL.out.kr (.int .i64 0) (.slice (some ⟨g, 0, none⟩) (LN + 1) cap) (.slice (some ⟨g2, 0, none⟩) (LN + 1) cp2)) rfl (by rfl) rfl ?_
                rw [E.out]
                cases t
                · exact ⟨_, _, _, _, _, _, rfl, below_same (st3_below HL.out.bl HL.out.rw (.int .i64 0) (.slice (some ⟨g, 0, none⟩) (LN + 1) cap) (.slice (some ⟨g2, 0, none⟩) (LN + 1) cp2)) rfl rfl rfl rfl⟩
                · have hi1 := irow_set (o := 2) (irow_set (o := 1) (irow_set (o := 0) HL.out.r1 HL.out.rb (.int .i64 0)) HL.out.rb (.slice (some ⟨g, 0, none⟩) (LN + 1) cap)) HL.out.rb (.slice (some ⟨g2, 0, none⟩) (LN + 1) cp2)
                  have hi2 := irow_set (o := 2) (irow_set (o := 1) (irow_set (o := 0) HL.out.r2 HL.out.rb (.int .i64 0)) HL.out.rb (.slice (some ⟨g, 0, none⟩) (LN + 1) cap)) HL.out.rb (.slice (some ⟨g2, 0, none⟩) (LN + 1) cp2)
                  obtain ⟨_, _, e1, l1, _⟩ := hi1.lst
                  obtain ⟨_, _, e2, l2, _⟩ := hi2.lst
                  simp only [Value.slice.injEq] at e1 e2
                  obtain ⟨rfl, _, rfl⟩ := e1
                  obtain ⟨rfl, _, rfl⟩ := e2
                  exact ⟨_, _, _, _, by rw [List.length_append, List.length_singleton, HLN.out], l1, l2, below_same (st3_below HL.out.bl HL.out.rw (.int .i64 0) (.slice (some ⟨g, 0, none⟩) (LN + 1) cap) (.slice (some ⟨g2, 0, none⟩) (LN + 1) cp2)) rfl rfl rfl rfl, fun b o h => own_ge HL.out.r1 HL.out.wb h, fun b o h => own_ge HL.out.r2 HL.out.wb h⟩
          case true =>
            obtain ⟨xb, b1, b2, b3⟩ := bit_t (f := n2 s.data.toList a) (m := 1) (by omega) (by omega) h1
            have b1 : bits .and .i64 ((n2 s.data.toList a : Nat) : Int) 1 = xb := b1
            have hof : offs (n2 s.data.toList a) = 4 := by unfold offs; rw [h1]; rfl
            obtain ⟨AP, hAP⟩ : ∃ AP : Nat, AP = a + 4 + offs (n2 s.data.toList a) + k := ⟨_, rfl⟩
            have HAP := hide hAP
            have hEX : (a : Int) + (6 + (k : Int)) + 2 = (AP : Int) := by omega
            clear h1 hAP hof
            have hap1 : (AP : Int) ≤ 1000100 := by omega
            have hap0 : (0 : Int) ≤ (AP : Int) := by omega
            by_cases hle : AP ≤ s.size
            case neg =>
              have hle' : (s.size : Int) < (AP : Int) := by omega
              have E := hide (show comW s.data.toList R = none by rw [← K3.out, cmp_over HM.out (by rw [← HAP.out]; exact hle)]; rfl)
              have kr3 := HL.out.kr.three
              obtain ⟨⟨r0, r1, r2⟩, z0, z1, z2⟩ := kr3
              go_wp2_with fail
              refine rc_fin (t := false) (st3 HL.out.kr (.int .i64 0) (.slice none 0 0) (.slice none 0 0)) rfl rfl rfl ?_
              rw [E.out]
              exact ⟨none, 0, 0, none, 0, 0, rfl, below_same (st3_below HL.out.bl HL.out.rw (.int .i64 0) (.slice none 0 0) (.slice none 0 0)) rfl rfl rfl rfl⟩
            have hle' : ¬ (s.size : Int) < (AP : Int) := by omega
            cases h32 : hb (n2 s.data.toList a) 32
            case true =>
              obtain ⟨x32, d1, d2, d3⟩ := bit_t (f := n2 s.data.toList a) (m := 32) (by omega) (by omega) h32
              have d1 : bits .and .i64 ((n2 s.data.toList a : Nat) : Int) 32 = x32 := d1
              have E := hide (show cmpA s.data.toList s.size m AP (acc ++ [a + 2]) = R by rw [← K3.out, cmp_more HM.out (by rw [← HAP.out]; exact hle) h32, ← HAP.out])
              clear h32
              go_wp2_with fail
              go_roundg m
              case measure => have := HG.out; omega
              case rel => exact ⟨m, AP, acc ++ [a + 2], _, _, rfl, hide ⟨rfl, by rw [List.length_append, List.length_singleton, HLN.out]; have := K1.out; omega, hle, E.out, HL.out⟩⟩
            case false =>
              have d1 : bits .and .i64 ((n2 s.data.toList a : Nat) : Int) 32 = 0 := bit_f (m := 32) (by omega) (by omega) h32
              cases h256 : hb (n2 s.data.toList a) 256
              case false =>
                have d2 : bits .and .i64 ((n2 s.data.toList a : Nat) : Int) 256 = 0 := bit_f (m := 256) (by omega) (by omega) h256
                have E := hide (show comW s.data.toList R = if tailB s.data.toList AP = true then some (acc ++ [a + 2]) else none by rw [← K3.out, cmp_done HM.out (by rw [← HAP.out]; exact hle) h32 h256, ← HAP.out]; rfl)
                have CZ := hide (fun z' w (hz : z' = (AP : Int)) => rzeros_any s AP z' w hz hs (by omega))
                generalize tailB s.data.toList AP = t at CZ E
                clear h32 h256
                obtain ⟨⟨r0, r1, r2⟩, z0, z1, z2⟩ := HL.out.kr.three
                obtain ⟨⟨y0, y1, y2⟩, _, _, _⟩ := HL.out.ky.three
                have hry := HL.out.ry
                have hrl := HL.out.kr.lt
                have hyl := HL.out.ky.lt
                go_wp2_with fail
                go_region_held3 (fun x => x.cell? ⟨yb, 0, none⟩ = some (.int .i64 0) ∧ x.cell? ⟨yb, 1, none⟩ = some (.slice (some ⟨g, 0, none⟩) (LN + 1) cap) ∧ x.cell? ⟨yb, 2, none⟩ = some (.slice (some ⟨g2, 0, none⟩) (LN + 1) cp2)) (first | go_keep | exact ⟨by rw [cell_other (Ne.symm hry), cell_other (Ne.symm hry), cell_other (Ne.symm hry)]; exact y0, by rw [cell_other (Ne.symm hry), cell_other (Ne.symm hry), cell_other (Ne.symm hry)]; exact y1, by rw [cell_other (Ne.symm hry), cell_other (Ne.symm hry), cell_other (Ne.symm hry)]; exact y2⟩) ((go_at_call 43; refine (CZ.out _ _ (by omega)).mono ?_; rintro e wv ⟨rfl, hv⟩; subst wv))
                go_wp2_with fail
                refine rc_fin (t := t) (st3 HL.out.kr (.int .i64 0) (.slice (some ⟨g, 0, none⟩) (LN + 1) cap) (.slice (some ⟨g2, 0, none⟩) (LN + 1) cp2)) rfl (by rfl) rfl ?_
                rw [E.out]
                cases t
                · exact ⟨_, _, _, _, _, _, rfl, below_same (st3_below HL.out.bl HL.out.rw (.int .i64 0) (.slice (some ⟨g, 0, none⟩) (LN + 1) cap) (.slice (some ⟨g2, 0, none⟩) (LN + 1) cp2)) rfl rfl rfl rfl⟩
                · have hi1 := irow_set (o := 2) (irow_set (o := 1) (irow_set (o := 0) HL.out.r1 HL.out.rb (.int .i64 0)) HL.out.rb (.slice (some ⟨g, 0, none⟩) (LN + 1) cap)) HL.out.rb (.slice (some ⟨g2, 0, none⟩) (LN + 1) cp2)
                  have hi2 := irow_set (o := 2) (irow_set (o := 1) (irow_set (o := 0) HL.out.r2 HL.out.rb (.int .i64 0)) HL.out.rb (.slice (some ⟨g, 0, none⟩) (LN + 1) cap)) HL.out.rb (.slice (some ⟨g2, 0, none⟩) (LN + 1) cp2)
                  obtain ⟨_, _, e1, l1, _⟩ := hi1.lst
                  obtain ⟨_, _, e2, l2, _⟩ := hi2.lst
                  simp only [Value.slice.injEq] at e1 e2
                  obtain ⟨rfl, _, rfl⟩ := e1
                  obtain ⟨rfl, _, rfl⟩ := e2
                  exact ⟨_, _, _, _, by rw [List.length_append, List.length_singleton, HLN.out], l1, l2, below_same (st3_below HL.out.bl HL.out.rw (.int .i64 0) (.slice (some ⟨g, 0, none⟩) (LN + 1) cap) (.slice (some ⟨g2, 0, none⟩) (LN + 1) cp2)) rfl rfl rfl rfl, fun b o h => own_ge HL.out.r1 HL.out.wb h, fun b o h => own_ge HL.out.r2 HL.out.wb h⟩
              case true =>
                obtain ⟨xq, d2, d3, d4⟩ := bit_t (f := n2 s.data.toList a) (m := 256) (by omega) (by omega) h256
                have d2 : bits .and .i64 ((n2 s.data.toList a : Nat) : Int) 256 = xq := d2
                by_cases hi2 : AP + 2 ≤ s.size
                case neg =>
                  have hi2' : (s.size : Int) < (AP : Int) + 2 := by omega
                  have E := hide (show comW s.data.toList R = none by
                    rw [← K3.out, cmp_ins HM.out (by rw [← HAP.out]; exact hle) h32 h256, ← HAP.out]
                    unfold insV
                    rw [if_neg (fun hh => hi2 hh.1)]; rfl)
                  clear h32 h256
                  have kr3 := HL.out.kr.three
                  obtain ⟨⟨r0, r1, r2⟩, z0, z1, z2⟩ := kr3
                  go_wp2_with fail
                  refine rc_fin (t := false) (st3 HL.out.kr (.int .i64 0) (.slice none 0 0) (.slice none 0 0)) rfl rfl rfl ?_
                  rw [E.out]
                  exact ⟨none, 0, 0, none, 0, 0, rfl, below_same (st3_below HL.out.bl HL.out.rw (.int .i64 0) (.slice none 0 0) (.slice none 0 0)) rfl rfl rfl rfl⟩
                have hi2' : ¬ (s.size : Int) < (AP : Int) + 2 := by omega
                have hQ := n2_lt s.data.toList AP
                have CI := hide (fun z' w (hz : z' = (AP : Int)) => CU.out AP z' w hz hi2)
                have E := hide (show comW s.data.toList R = if tailB s.data.toList (AP + 2 + n2 s.data.toList AP) = true then some (acc ++ [a + 2]) else none by
                  rw [← K3.out, cmp_ins HM.out (by rw [← HAP.out]; exact hle) h32 h256, ← HAP.out]
                  unfold insV
                  by_cases hi3 : AP + 2 + n2 s.data.toList AP ≤ s.size
                  · rw [if_pos ⟨hi2, hi3⟩]; rfl
                  · rw [if_neg (fun hh => hi3 hh.2)]
                    have : tailB s.data.toList (AP + 2 + n2 s.data.toList AP) = false := by unfold tailB; rw [decide_eq_false (by rw [← Lib.size_eq]; exact hi3)]; rfl
                    rw [this]; rfl)
                obtain ⟨AQ, hAQ⟩ : ∃ AQ, AQ = AP + 2 + n2 s.data.toList AP := ⟨_, rfl⟩
                have CZ := hide (fun z' w (hz : z' = (AQ : Int)) => rzeros_any s AQ z' w hz hs (by omega))
                rw [← hAQ] at E
                have hEQ : (AP : Int) + (2 + ((n2 s.data.toList AP : Nat) : Int)) = (AQ : Int) := by omega
                have hq1 : ((n2 s.data.toList AP : Nat) : Int) ≤ 65535 := by omega
                generalize n2 s.data.toList AP = Q at CI hEQ hq1
                generalize tailB s.data.toList AQ = t at CZ E
                clear h32 h256 hAQ hQ
                go_wp2_with fail
                refine (CI.out _ _ rfl).mono ?_
                rintro e wq ⟨rfl, m2, hw⟩
                replace HL := hide (HL.out.same (u := wq) (by rw [hw]; exact below_drewN' _ m2))
                clear hw
                obtain ⟨⟨r0, r1, r2⟩, z0, z1, z2⟩ := HL.out.kr.three
                obtain ⟨⟨y0, y1, y2⟩, _, _, _⟩ := HL.out.ky.three
                have hry := HL.out.ry
                have hrl := HL.out.kr.lt
                have hyl := HL.out.ky.lt
                go_wp2_with fail
                go_region_held3 (fun x => x.cell? ⟨yb, 0, none⟩ = some (.int .i64 0) ∧ x.cell? ⟨yb, 1, none⟩ = some (.slice (some ⟨g, 0, none⟩) (LN + 1) cap) ∧ x.cell? ⟨yb, 2, none⟩ = some (.slice (some ⟨g2, 0, none⟩) (LN + 1) cp2)) (first | go_keep | exact ⟨by rw [cell_other (Ne.symm hry), cell_other (Ne.symm hry), cell_other (Ne.symm hry)]; exact y0, by rw [cell_other (Ne.symm hry), cell_other (Ne.symm hry), cell_other (Ne.symm hry)]; exact y1, by rw [cell_other (Ne.symm hry), cell_other (Ne.symm hry), cell_other (Ne.symm hry)]; exact y2⟩) ((go_at_call 43; refine (CZ.out _ _ (by omega)).mono ?_; rintro e wv ⟨rfl, hv⟩; subst wv))
                go_wp2_with fail
                refine rc_fin (t := t) (st3 HL.out.kr (.int .i64 0) (.slice (some ⟨g, 0, none⟩) (LN + 1) cap) (.slice (some ⟨g2, 0, none⟩) (LN + 1) cp2)) rfl (by rfl) rfl ?_
                rw [E.out]
                cases t
                · exact ⟨_, _, _, _, _, _, rfl, below_same (st3_below HL.out.bl HL.out.rw (.int .i64 0) (.slice (some ⟨g, 0, none⟩) (LN + 1) cap) (.slice (some ⟨g2, 0, none⟩) (LN + 1) cp2)) rfl rfl rfl rfl⟩
                · have hi1 := irow_set (o := 2) (irow_set (o := 1) (irow_set (o := 0) HL.out.r1 HL.out.rb (.int .i64 0)) HL.out.rb (.slice (some ⟨g, 0, none⟩) (LN + 1) cap)) HL.out.rb (.slice (some ⟨g2, 0, none⟩) (LN + 1) cp2)
                  have hi2 := irow_set (o := 2) (irow_set (o := 1) (irow_set (o := 0) HL.out.r2 HL.out.rb (.int .i64 0)) HL.out.rb (.slice (some ⟨g, 0, none⟩) (LN + 1) cap)) HL.out.rb (.slice (some ⟨g2, 0, none⟩) (LN + 1) cp2)
                  obtain ⟨_, _, e1, l1, _⟩ := hi1.lst
                  obtain ⟨_, _, e2, l2, _⟩ := hi2.lst
                  simp only [Value.slice.injEq] at e1 e2
                  obtain ⟨rfl, _, rfl⟩ := e1
                  obtain ⟨rfl, _, rfl⟩ := e2
                  exact ⟨_, _, _, _, by rw [List.length_append, List.length_singleton, HLN.out], l1, l2, below_same (st3_below HL.out.bl HL.out.rw (.int .i64 0) (.slice (some ⟨g, 0, none⟩) (LN + 1) cap) (.slice (some ⟨g2, 0, none⟩) (LN + 1) cp2)) rfl rfl rfl rfl, fun b o h => own_ge HL.out.r1 HL.out.wb h, fun b o h => own_ge HL.out.r2 HL.out.wb h⟩
end Go.Proofs.YtcbmjoocehhhnaaDoor
