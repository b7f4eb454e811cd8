/-
  Joined: G10Qc, G10Qs, G10Qo, G10Ja.
-/
import Derived.Test.YthnpnkiomknkeaaDoorC05
import Derived.Test.YthnpnkiomknkeaaDoorC13
namespace Go.Proofs.YthnpnkiomknkeaaDoor.G10
open Go.RowKit Go.Deep
set_option linter.unusedVariables false
set_option linter.unusedSimpArgs false
theorem step_append_run {P : Program} (w : World) {ops : Array Oper} {o : Oper} {a : Act} {K : Act → World → Prop} {Q : Exit → Act → World → Prop} {E : Prop} (hgd : o.guard = none) (s x : Operand) (t tn : TypeId)
    (ho : o.op = .call { callee := .builtin .append, args := #[s, x], argTypes := #[t, tn] }) (vs vx : Value) (hs : a.eval s = vs) (hx : a.eval x = vx)
    (v' : Value) (w' : World) (hr : (Builtin.append_ #[t, tn] o.type #[vs, vx]).run P w = .ok v' w') (h : K (a.put o.dst v') w') :
    if Region.wanted o (yielded ops a.tmps) = true then Oper.wp P o a w K Q else E := by
  rw [if_pos (by simp [Region.wanted, hgd])]
  exact Lib.wp_append_run w s x t tn ho vs vx hs hx v' w' hr h
theorem app_i2 {W : World} {B k : Nat} {v : Value} {zs : List Int} (x : Int) (h : IRow W B v zs) (hz : zs.length = k) (hB : B ≤ W.heap.size) (hl : k ≤ 1000000) :
    ∃ g cap w2, (Builtin.append_ #[23, 23] 23 #[v, .slice (some ⟨W.heap.size, 0, none⟩) 1 1]).run Tryd.prog (W.alloc (.cells #[.int .i64 x] 3)) = .ok (.slice (some ⟨g, 0, none⟩) (k + 1) cap) w2 ∧
      IRow w2 B (.slice (some ⟨g, 0, none⟩) (k + 1) cap) (zs ++ [x]) ∧ (v.ownBlock = some g ∨ W.heap.size ≤ g) ∧ W.heap.size ≤ w2.heap.size ∧ (∀ j, j < W.heap.size → v.ownBlock ≠ some j → w2.heap[j]? = W.heap[j]?) ∧ Below B W w2 := by
  obtain ⟨i0, hi, hz0, hz1, hz2⟩ := info_parts5 info_int
  subst hz
  obtain ⟨g, cap, w2, hr, ho, hg, hat, _⟩ := run_append_lies (P := Tryd.prog) (W.alloc (.cells #[.int .i64 x] 3)) 23 23 B 3 i0 _ 1 8 Tryd.underlying23 hi hz0 hz1 hz2 rfl (by decide) v zs.length (zs.map (Value.int .i64)) (World.ownsRow.alloc h _) ⟨W.heap.size, 0, none⟩ 1 1 [.int .i64 x] (by simp)
    (fun j u hu => by rw [Go.WideShapes.add_plain, Nat.zero_add, World.cell?_alloc_at _ _ _ _ rfl]; simpa using hu) (fun u hu => by simp at hu; subst hu; rfl) (by decide) (by unfold maxLen; omega) (by omega) (by simp; omega) (W.heap.size + 1) (by simp)
  refine ⟨g, cap, w2, hr, ?_, ?_, ?_, ?_, ((Below.refl B W).alloc hB _).grown hg (by simp; omega) fun k hk' => (World.ownsRow.lt h k hk').1⟩
  · unfold IRow
    rw [List.map_append, List.length_append]
    exact ho
  · rcases hat with hat | hat
    · exact Or.inl hat
    · exact Or.inr (by omega)
  · have := hg.size; simp at this; omega
  · intro j hj hne
    rw [hg.block j (by simp; omega) (Ne.symm hne)]
    exact ((Below.refl W.heap.size W).alloc (Nat.le_refl _) (.cells #[.int .i64 x] 3)).block j hj
structure Lq (w : World) (r y B : Nat) (v1 v2 : Value) (z1 z2 : List Int) (wr : World) : Prop where
  kr : Blk wr r zs3 85
  ky : Blk wr y #[.int .i64 0, v1, v2] 85
  r1 : IRow wr B v1 z1
  r2 : IRow wr B v2 z2
  dj : ∀ g, v1.ownBlock = some g → v2.ownBlock ≠ some g
  bl : Below w.heap.size w wr
  yb : y < B
  rb : r < B
  ry : r ≠ y
  bb : B ≤ wr.heap.size
  wb : w.heap.size ≤ B
  rw : w.heap.size ≤ r
  yw : w.heap.size ≤ y
theorem Lq.same {w : World} {r y B : Nat} {v1 v2 : Value} {z1 z2 : List Int} {wr u : World} (L : Lq w r y B v1 v2 z1 z2 wr) (hb : Below wr.heap.size wr u) : Lq w r y B v1 v2 z1 z2 u :=
  ⟨L.kr.below hb, L.ky.below hb, L.r1.kept fun g _ hl => hb.block g hl, L.r2.kept fun g _ hl => hb.block g hl, L.dj, below_t5 L.bl hb, L.yb, L.rb, L.ry, Nat.le_trans L.bb hb.size, L.wb, L.rw, L.yw⟩
theorem Lq.app1 {w : World} {r y B k : Nat} {v1 v2 : Value} {z1 z2 : List Int} {W : World} (L : Lq w r y B v1 v2 z1 z2 W) (X : Int) (hk : z1.length = k) (hN : k ≤ 5000) :
    ∃ g cap w', (Builtin.append_ #[23, 23] 23 #[v1, .slice (some ⟨W.heap.size, 0, none⟩) 1 1]).run Tryd.prog (W.alloc (.cells #[.int .i64 X] 3)) = .ok (.slice (some ⟨g, 0, none⟩) (k + 1) cap) w' ∧
      Blk w' y #[.int .i64 0, v1, v2] 85 ∧ Lq w r y B (.slice (some ⟨g, 0, none⟩) (k + 1) cap) v2 (z1 ++ [X]) z2 (w'.setCell ⟨y, 1, none⟩ (.slice (some ⟨g, 0, none⟩) (k + 1) cap)) := by
  obtain ⟨g, cap, w', hr, hrow, hown, hsz, hfar, hbel⟩ := app_i2 X L.r1 hk L.bb (by omega)
  have ky' : Blk w' y #[.int .i64 0, v1, v2] 85 := by
    have hlt := L.ky.lt
    unfold Blk
    rw [hfar y hlt (fun e => by have := L.r1.own y e; have := L.yb; omega)]
    exact L.ky
  have kr' : Blk w' r zs3 85 := by
    have hlt := L.kr.lt
    unfold Blk
    rw [hfar r hlt (fun e => by have := L.r1.own r e; have := L.rb; omega)]
    exact L.kr
  have hset : But y w' (w'.setCell ⟨y, 1, none⟩ (.slice (some ⟨g, 0, none⟩) (k + 1) cap)) := But.setCell _ _ _ _
  have hbw : Below w.heap.size w w' := L.bl.trans (hbel.mono L.wb)
  refine ⟨g, cap, w', hr, ky', ⟨hset.blk kr' L.ry, ?_, ?_, ?_, ?_, hset.below hbw L.yw, L.yb, L.rb, L.ry, by simp [World.setCell]; exact Nat.le_trans L.bb hsz, L.wb, L.rw, L.yw⟩⟩
  · exact Blk.set ky' 1 (.slice (some ⟨g, 0, none⟩) (k + 1) cap)
  · exact irow_set hrow L.yb _
  · exact irow_set (L.r2.kept fun j hj hlt => hfar j hlt (fun e' => L.dj j e' hj)) L.yb _
  · intro j hj hj2
    have hjg : g = j := by simpa [Value.ownBlock] using hj
    subst hjg
    rcases hown with h1 | h1
    · exact L.dj g h1 hj2
    · have := (L.r2.own g hj2).2; omega
theorem Lq.app2 {w : World} {r y B k : Nat} {v1 v2 : Value} {z1 z2 : List Int} {W : World} (L : Lq w r y B v1 v2 z1 z2 W) (X : Int) (hk : z2.length = k) (hN : k ≤ 5000) :
    ∃ g cap w', (Builtin.append_ #[23, 23] 23 #[v2, .slice (some ⟨W.heap.size, 0, none⟩) 1 1]).run Tryd.prog (W.alloc (.cells #[.int .i64 X] 3)) = .ok (.slice (some ⟨g, 0, none⟩) (k + 1) cap) w' ∧
      Blk w' y #[.int .i64 0, v1, v2] 85 ∧ Lq w r y B v1 (.slice (some ⟨g, 0, none⟩) (k + 1) cap) z1 (z2 ++ [X]) (w'.setCell ⟨y, 2, none⟩ (.slice (some ⟨g, 0, none⟩) (k + 1) cap)) := by
  obtain ⟨g, cap, w', hr, hrow, hown, hsz, hfar, hbel⟩ := app_i2 X L.r2 hk L.bb (by omega)
  have ky' : Blk w' y #[.int .i64 0, v1, v2] 85 := by
    have hlt := L.ky.lt
    unfold Blk
    rw [hfar y hlt (fun e => by have := L.r2.own y e; have := L.yb; omega)]
    exact L.ky
  have kr' : Blk w' r zs3 85 := by
    have hlt := L.kr.lt
    unfold Blk
    rw [hfar r hlt (fun e => by have := L.r2.own r e; have := L.rb; omega)]
    exact L.kr
  have hset : But y w' (w'.setCell ⟨y, 2, none⟩ (.slice (some ⟨g, 0, none⟩) (k + 1) cap)) := But.setCell _ _ _ _
  have hbw : Below w.heap.size w w' := L.bl.trans (hbel.mono L.wb)
  refine ⟨g, cap, w', hr, ky', ⟨hset.blk kr' L.ry, ?_, ?_, ?_, ?_, hset.below hbw L.yw, L.yb, L.rb, L.ry, by simp [World.setCell]; exact Nat.le_trans L.bb hsz, L.wb, L.rw, L.yw⟩⟩
  · exact Blk.set ky' 2 (.slice (some ⟨g, 0, none⟩) (k + 1) cap)
  · exact irow_set (L.r1.kept fun j hj hlt => hfar j hlt (fun e' => L.dj j hj e')) L.yb _
  · exact irow_set hrow L.yb _
  · intro j hj hj2
    have hjg : g = j := by simpa [Value.ownBlock] using hj2
    subst hjg
    rcases hown with h1 | h1
    · exact L.dj g hj h1
    · have := (L.r1.own g hj).2; omega
def CmR (w : World) (l : List UInt8) (R : Option (List Nat)) (e : Ending) (w' : World) : Prop := match R with
  | some ps => ∃ a1 c1 a2 c2, e = .returned (.tuple #[.agg #[.int .i64 0, .slice a1 ps.length c1, .slice a2 ps.length c2], .bool true]) ∧ Lst w' a1 (ints (prV l ps)) ∧ Lst w' a2 (ints ps) ∧ Below w.heap.size w w' ∧ (∀ b o, a1 = some ⟨b, o, none⟩ → w.heap.size ≤ b) ∧ ∀ b o, a2 = some ⟨b, o, none⟩ → w.heap.size ≤ b
  | none => ∃ a1 n1 c1 a2 n2 c2, e = .returned (.tuple #[.agg #[.int .i64 0, .slice a1 n1 c1, .slice a2 n2 c2], .bool false]) ∧ Below w.heap.size w w'
theorem rc_fin {R : Ending → World → Prop} {a : Act} {V : World} {B : Nat} {x y z : Value} {t : Bool} (hk : Blk V B #[x, y, z] 85) (h4 : a.tmps[2]?.getD undef = .pointer (some ⟨B, 0, none⟩)) (h5 : a.tmps[3]?.getD undef = .bool t) (hd : a.defers = []) (h : R (.returned (.tuple #[.agg #[x, y, z], .bool t])) V) :
    bodyPost Tryd.prog Tryd.f57 R Exit.ret a V := by
  obtain ⟨⟨f0, f1, f2⟩, _⟩ := hk.three
  refine bodyPost_ret (v := .tuple #[.agg #[x, y, z], .bool t]) ?_ hd h
  simp [results, Tryd.results57, go_sem, f0, f1, f2, h4, h5]
theorem own_ge {w W : World} {B g n c b o : Nat} {zs : List Int} (h : IRow W B (.slice (some ⟨g, 0, none⟩) n c) zs) (hB : w.heap.size ≤ B) (e : (some ⟨g, 0, none⟩ : Option Addr) = some ⟨b, o, none⟩) : w.heap.size ≤ b := by
  have h1 := (h.own g rfl).1
  have h2 : g = b := by simpa using (congrArg (fun x => x.map Addr.block) e)
  omega
theorem prV_snoc (l : List UInt8) (ps : List Nat) (x : Nat) : prV l (ps ++ [x]) = prV l ps ++ [n2 l x] := by simp [prV]
theorem prV_len (l : List UInt8) (ps : List Nat) : (prV l ps).length = ps.length := by simp [prV]
theorem rc_begin (w : World) : ∃ V, V = (w.alloc (.cells zs3 85)).alloc (.cells zs3 85) ∧ Lq w w.heap.size (w.heap.size + 1) (w.heap.size + 2) (.slice none 0 0) (.slice none 0 0) [] [] V := by
  refine ⟨_, rfl, ?_, ?_, IRow.nil _ _, IRow.nil _ _, fun g hg => by simp [Value.ownBlock] at hg, ?_, by omega, by omega, by omega, by simp, by omega, Nat.le_refl _, by omega⟩
  · exact (Blk.new w _ _).below ((Below.refl _ _).alloc (Nat.le_refl _) _)
  · have := Blk.new (w.alloc (.cells zs3 85)) zs3 85
    rwa [show (w.alloc (.cells zs3 85)).heap.size = w.heap.size + 1 by simp] at this
  · exact ((Below.refl _ _).alloc (Nat.le_refl _) _).alloc (by simp) _
set_option maxRecDepth 8000 in
set_option maxHeartbeats 8000000 in
theorem rcomp_any (s : ByteArray) (w : World) (hs : s.size ≤ 1000000) (hN : 10 ≤ s.size) :
    Calls Tryd.prog 57 #[.string s] w (CmR w s.data.toList (comV s.data.toList)) := by
  rw [comV_eq]
  obtain ⟨R, hR⟩ : ∃ R, cmpA s.data.toList s.size 64 10 [] = R := ⟨_, rfl⟩
  rw [hR]
  have HR := hide hR
  have hs' : (s.size : Int) ≤ 1000000 := by omega
  have CU := hide (fun (k : Nat) (z : Int) (w : World) (hz : z = (k : Int)) (h : k + 2 ≤ s.size) => ru2_any s k z w hz h (by omega))
  have CSc := hide (fun (f : Nat) (w : World) (h1 : f ≤ 65535) => rscaled_any f w h1)
  obtain ⟨V, hV, hL0⟩ := rc_begin w
  have HL0 := hide hL0
  clear hR hL0
  go_enter Tryd.func57, Tryd.ntmps57
  go_upto_region 2 with (fail)
  rw [← hV]
  clear hV
  go_wp2_with fail
  generalize hRB : w.heap.size = rb at HL0 ⊢
  generalize hYB : rb + 1 = yb at HL0 ⊢
  generalize hBB : rb + 2 = bb at HL0
  clear hRB hYB hBB
  go_loopg [5] 64 (fun g va wr => ∃ (m a : Nat) (acc : List Nat) (v1 v2 : Value), va = .int .i64 (a : Int) ∧ Hid (g = m ∧ acc.length + m = 64 ∧ a ≤ s.size ∧ cmpA s.data.toList s.size m a acc = R ∧ Lq w rb yb bb v1 v2 (ints (prV s.data.toList acc)) (ints acc) wr))
  case atStart => exact ⟨64, 10, [], _, _, rfl, hide ⟨rfl, rfl, hN, HR.out, HL0.out⟩⟩
  case round =>
    obtain ⟨m, a, acc, v1, v2, rfl, HV⟩ := hrel
    obtain ⟨hg, k1, k2, k3, k4⟩ := HV.out
    have HG := hide hg
    have K1 := hide k1
    have K3 := hide k3
    have HL := hide k4
    obtain ⟨ad1, cap1, hv1, _⟩ := k4.r1.lst
    obtain ⟨ad2, cap2, hv2, _⟩ := k4.r2.lst
    rw [ints_len, prV_len] at hv1
    rw [ints_len] at hv2
    subst hv1
    subst hv2
    have hal : acc.length ≤ 64 := by omega
    have hal' : (acc.length : Int) ≤ 64 := by omega
    have ha0 : (0 : Int) ≤ (a : Int) := by omega
    have ha1 : (a : Int) ≤ 1000000 := by omega
    have hyl := k4.ky.lt
    obtain ⟨⟨y0, y1, y2⟩, x0, x1, x2⟩ := k4.ky.three
    clear HV hg k1 k3 k4 HL0 HR
    by_cases h4 : a + 4 ≤ s.size
    case neg =>
      have h4' : (s.size : Int) < (a : Int) + 4 := by omega
      have h4d : decide ((s.size : Int) < (a : Int) + 4) = true := by simpa using h4'
      have E := hide (show comW s.data.toList R = none by rw [← K3.out, cmp_short h4]; rfl)
      have kr3 := HL.out.kr.three
      obtain ⟨⟨r0, r1, r2⟩, z0, z1, z2⟩ := kr3
      go_wp2_with fail
      refine rc_fin (t := false) (st3 HL.out.kr (.int .i64 0) (.slice none 0 0) (.slice none 0 0)) rfl rfl rfl ?_
      rw [E.out]
      exact ⟨none, 0, 0, none, 0, 0, rfl, below_same (st3_below HL.out.bl HL.out.rw (.int .i64 0) (.slice none 0 0) (.slice none 0 0)) rfl rfl rfl rfl⟩
    have h4' : ¬ (s.size : Int) < (a : Int) + 4 := by omega
    have h4d : decide ((s.size : Int) < (a : Int) + 4) = false := by simpa using h4'
    cases m with
    | zero =>
      have hd : ((acc.length : Int) == 64) = true := by have := K1.out; rw [beq_iff_eq]; omega
      have E := hide (show comW s.data.toList R = none by rw [← K3.out]; rfl)
      have kr3 := HL.out.kr.three
      obtain ⟨⟨r0, r1, r2⟩, z0, z1, z2⟩ := kr3
      go_wp2_with fail
      refine rc_fin (t := false) (st3 HL.out.kr (.int .i64 0) (.slice none 0 0) (.slice none 0 0)) rfl rfl rfl ?_
      rw [E.out]
      exact ⟨none, 0, 0, none, 0, 0, rfl, below_same (st3_below HL.out.bl HL.out.rw (.int .i64 0) (.slice none 0 0) (.slice none 0 0)) rfl rfl rfl rfl⟩
    | succ m =>
      have hd : ((acc.length : Int) == 64) = false := by have := K1.out; rw [beq_eq_false_iff_ne]; omega
      have hf := n2_lt s.data.toList a
      have CF := hide (fun z w (hz : z = (a : Int)) => CU.out a z w hz (by omega))
      have CP := hide (fun z w (hz : z = ((a + 2 : Nat) : Int)) => CU.out (a + 2) z w hz (by omega))
      have CS := hide (fun w => CSc.out (n2 s.data.toList a) w (by omega))
      go_wp2_with fail
      refine (CF.out _ _ rfl).mono ?_
      rintro e wy ⟨rfl, m0, hy⟩
      have HLa : Hid (Lq w rb yb bb (.slice ad1 acc.length cap1) (.slice ad2 acc.length cap2) (ints (prV s.data.toList acc)) (ints acc) wy) := hide (HL.out.same (by rw [hy]; exact below_drewN' _ _))
      clear hy HL y0 y1 y2 x0 x1 x2 hyl
      have q9 : wy.cell? ⟨yb, 1, none⟩ = some (.slice ad1 acc.length cap1) := HLa.out.ky.cell 1
      have hszy := HLa.out.ky.lt
      have hlz1 : (ints (prV s.data.toList acc)).length = acc.length := by rw [ints_len, prV_len]
      have hlz2 : (ints acc).length = acc.length := ints_len acc
      have HZL := hide (And.intro hlz1 hlz2)
      obtain ⟨X, hX⟩ : ∃ X : Int, ((n2 s.data.toList (a + 2) : Nat) : Int) = X := ⟨_, rfl⟩
      rw [hX] at CP
      have HX := hide hX
      obtain ⟨LN, hLN⟩ : ∃ LN, acc.length = LN := ⟨_, rfl⟩
      have HLN := hide hLN
      rw [hLN] at q9 HLa HZL hal hal' K1 hd ⊢
      clear hX hlz1 hlz2 hLN
      have hw2 : IntKind.i64.wrap ((a : Int) + 2) = (a : Int) + 2 := by rw [IntKind.wrap_i64]; omega
      go_wp2_with fail
      go_region_law ((first | (go_simp; go_at_call 56; refine (CP.out _ _ (by omega)).mono ?_; rintro e wz ⟨rfl, m1, hw⟩; have hLy := Lq.same HLa.out (u := wz) (by rw [hw]; first | exact below_drewN' _ m1 | exact below_t5 (below_drewN' _ _) (below_drewN' _ m1) | exact below_t5 (Below.refl _ _).drew (below_drewN' _ m1)); clear hw; obtain ⟨g, cap, w4, hr, hk4, hl4⟩ := Lq.app1 hLy X HZL.out.1 (by omega); have HR := hide hr; have q9 : wz.cell? ⟨yb, 1, none⟩ = some (.slice ad1 LN cap1) := hLy.ky.cell 1; have hszy := hLy.ky.lt; have HQ : Hid (w4.cell? ⟨yb, 1, none⟩ = some (.slice ad1 LN cap1)) := hide (hk4.cell 1); have HZ := hide (hk4.frozen 1); have HT := hide hk4.lt; have HL4 := hide hl4; clear hLy hr hk4 hl4) | (refine step_append_run _ (by rfl) _ _ _ _ rfl _ _ (by rfl) (by rfl) _ _ HR.out ?_; clear q9; have q9 := HQ.out; have z9 := HZ.out; have t9 := HT.out)))
      all_goals
        have HL5 := HL4
        generalize w4.setCell ⟨yb, 1, none⟩ (.slice (some ⟨g, 0, none⟩) (LN + 1) cap) = w5 at HL5 ⊢
        obtain ⟨g2, cp2, w6, hr2, hk6, hl6⟩ := Lq.app2 HL5.out ((a : Int) + 2) HZL.out.2 (by omega)
        have HR2 := hide hr2
        have u2 : w5.cell? ⟨yb, 2, none⟩ = some (.slice ad2 LN cap2) := HL5.out.ky.cell 2
        have u3 := HL5.out.ky.lt
        have u4 : w6.cell? ⟨yb, 2, none⟩ = some (.slice ad2 LN cap2) := hk6.cell 2
        have u5 := hk6.frozen 2
        have u6 := hk6.lt
        have HL6 := hide hl6
        clear hr2 hk6 hl6 HL4 HLa HQ HZ HT HR HL5 q9 z9 t9 hszy
        go_upto_region 8 with (at_builtin; refine Lib.wpList_append_run _ rfl _ _ _ _ rfl _ _ rfl rfl _ _ HR2.out ?_)
        clear u2 u3 u4 u5 u6
        generalize w6.setCell ⟨yb, 2, none⟩ (.slice (some ⟨g2, 0, none⟩) (LN + 1) cp2) = w7 at HL6 ⊢
        have HL : Hid (Lq w rb yb bb (.slice (some ⟨g, 0, none⟩) (LN + 1) cap) (.slice (some ⟨g2, 0, none⟩) (LN + 1) cp2) (ints (prV s.data.toList (acc ++ [a + 2]))) (ints (acc ++ [a + 2])) w7) := hide (by
          rw [prV_snoc, ints_snoc, ints_snoc, HX.out]
          exact HL6.out)
        clear HL6 HR2 HZL
        go_wp2_with fail
        refine (CS.out _).mono ?_
        rintro e wq ⟨rfl, hq⟩
        subst wq
        cases hm : mtx (n2 s.data.toList a) with
        | none =>
          have hsc : scV (n2 s.data.toList a) = -1 := by unfold scV; rw [hm]
          have E := hide (show comW s.data.toList R = none by rw [← K3.out, cmp_mtx hm]; rfl)
          rw [hsc]
          clear hm hsc
          have kr3 := HL.out.kr.three
          obtain ⟨⟨r0, r1, r2⟩, z0, z1, z2⟩ := kr3
          go_wp2_with fail
          refine rc_fin (t := false) (st3 HL.out.kr (.int .i64 0) (.slice none 0 0) (.slice none 0 0)) rfl rfl rfl ?_
          rw [E.out]
          exact ⟨none, 0, 0, none, 0, 0, rfl, below_same (st3_below HL.out.bl HL.out.rw (.int .i64 0) (.slice none 0 0) (.slice none 0 0)) rfl rfl rfl rfl⟩
        | some k =>
          have hsc : scV (n2 s.data.toList a) = (k : Int) := by unfold scV; rw [hm]
          have hk8 := mtx_le hm
          have hk8' : (k : Int) ≤ 8 := by omega
          have hk0 : (0 : Int) ≤ (k : Int) := by omega
          rw [hsc]
          have HM := hide hm
          clear hsc hm
          cases h1 : hb (n2 s.data.toList a) 1
          case false =>
            have b1 : bits .and .i64 ((n2 s.data.toList a : Nat) : Int) 1 = 0 := bit_f (m := 1) (by omega) (by omega) h1
            have hof : offs (n2 s.data.toList a) = 2 := by unfold offs; rw [h1]; rfl
            obtain ⟨AP, hAP⟩ : ∃ AP : Nat, AP = a + 4 + offs (n2 s.data.toList a) + k := ⟨_, rfl⟩
            have HAP := hide hAP
            have hEX : (a : Int) + (6 + (k : Int)) = (AP : Int) := by omega
            clear h1 hAP hof
            have hap1 : (AP : Int) ≤ 1000100 := by omega
            have hap0 : (0 : Int) ≤ (AP : Int) := by omega
            by_cases hle : AP ≤ s.size
            case neg =>
              have hle' : (s.size : Int) < (AP : Int) := by omega
              have E := hide (show comW s.data.toList R = none by rw [← K3.out, cmp_over HM.out (by rw [← HAP.out]; exact hle)]; rfl)
              have kr3 := HL.out.kr.three
              obtain ⟨⟨r0, r1, r2⟩, z0, z1, z2⟩ := kr3
              go_wp2_with fail
              refine rc_fin (t := false) (st3 HL.out.kr (.int .i64 0) (.slice none 0 0) (.slice none 0 0)) rfl rfl rfl ?_
              rw [E.out]
              exact ⟨none, 0, 0, none, 0, 0, rfl, below_same (st3_below HL.out.bl HL.out.rw (.int .i64 0) (.slice none 0 0) (.slice none 0 0)) rfl rfl rfl rfl⟩
            have hle' : ¬ (s.size : Int) < (AP : Int) := by omega
            cases h32 : hb (n2 s.data.toList a) 32
            case true =>
              obtain ⟨x32, d1, d2, d3⟩ := bit_t (f := n2 s.data.toList a) (m := 32) (by omega) (by omega) h32
              have d1 : bits .and .i64 ((n2 s.data.toList a : Nat) : Int) 32 = x32 := d1
              have E := hide (show cmpA s.data.toList s.size m AP (acc ++ [a + 2]) = R by rw [← K3.out, cmp_more HM.out (by rw [← HAP.out]; exact hle) h32, ← HAP.out])
              clear h32
              go_wp2_with fail
              go_roundg m
              case measure => have := HG.out; omega
              case rel => exact ⟨m, AP, acc ++ [a + 2], _, _, rfl, hide ⟨rfl, by rw [List.length_append, List.length_singleton, HLN.out]; have := K1.out; omega, hle, E.out, HL.out⟩⟩
            case false =>
              have d1 : bits .and .i64 ((n2 s.data.toList a : Nat) : Int) 32 = 0 := bit_f (m := 32) (by omega) (by omega) h32
              cases h256 : hb (n2 s.data.toList a) 256
              case false =>
                have d2 : bits .and .i64 ((n2 s.data.toList a : Nat) : Int) 256 = 0 := bit_f (m := 256) (by omega) (by omega) h256
                have E := hide (show comW s.data.toList R = if tailB s.data.toList AP = true then some (acc ++ [a + 2]) else none by rw [← K3.out, cmp_done HM.out (by rw [← HAP.out]; exact hle) h32 h256, ← HAP.out]; rfl)
                have CZ := hide (fun z' w (hz : z' = (AP : Int)) => rzeros_any s AP z' w hz hs (by omega))
                generalize tailB s.data.toList AP = t at CZ E
                clear h32 h256
                obtain ⟨⟨r0, r1, r2⟩, z0, z1, z2⟩ := HL.out.kr.three
                obtain ⟨⟨y0, y1, y2⟩, _, _, _⟩ := HL.out.ky.three
                have hry := HL.out.ry
                have hrl := HL.out.kr.lt
                have hyl := HL.out.ky.lt
                go_wp2_with fail
                go_region_held3 (fun x => x.cell? ⟨yb, 0, none⟩ = some (.int .i64 0) ∧ x.cell? ⟨yb, 1, none⟩ = some (.slice (some ⟨g, 0, none⟩) (LN + 1) cap) ∧ x.cell? ⟨yb, 2, none⟩ = some (.slice (some ⟨g2, 0, none⟩) (LN + 1) cp2)) (first | go_keep | exact ⟨by rw [cell_other (Ne.symm hry), cell_other (Ne.symm hry), cell_other (Ne.symm hry)]; exact y0, by rw [cell_other (Ne.symm hry), cell_other (Ne.symm hry), cell_other (Ne.symm hry)]; exact y1, by rw [cell_other (Ne.symm hry), cell_other (Ne.symm hry), cell_other (Ne.symm hry)]; exact y2⟩) ((go_at_call 73; refine (CZ.out _ _ (by omega)).mono ?_; rintro e wv ⟨rfl, hv⟩; subst wv))
                go_wp2_with fail
                refine rc_fin (t := t) (st3 HL.out.kr (.int .i64 0) (.slice (some ⟨g, 0, none⟩) (LN + 1) cap) (.slice (some ⟨g2, 0, none⟩) (LN + 1) cp2)) rfl (by rfl) rfl ?_
                rw [E.out]
                cases t
                · exact ⟨_, _, _, _, _, _, rfl, below_same (st3_below HL.out.bl HL.out.rw (.int .i64 0) (.slice (some ⟨g, 0, none⟩) (LN + 1) cap) (.slice (some ⟨g2, 0, none⟩) (LN + 1) cp2)) rfl rfl rfl rfl⟩
                · have hi1 := irow_set (o := 2) (irow_set (o := 1) (irow_set (o := 0) HL.out.r1 HL.out.rb (.int .i64 0)) HL.out.rb (.slice (some ⟨g, 0, none⟩) (LN + 1) cap)) HL.out.rb (.slice (some ⟨g2, 0, none⟩) (LN + 1) cp2)
                  have hi2 := irow_set (o := 2) (irow_set (o := 1) (irow_set (o := 0) HL.out.r2 HL.out.rb (.int .i64 0)) HL.out.rb (.slice (some ⟨g, 0, none⟩) (LN + 1) cap)) HL.out.rb (.slice (some ⟨g2, 0, none⟩) (LN + 1) cp2)
                  obtain ⟨_, _, e1, l1, _⟩ := hi1.lst
                  obtain ⟨_, _, e2, l2, _⟩ := hi2.lst
                  simp only [Value.slice.injEq] at e1 e2
                  obtain ⟨rfl, _, rfl⟩ := e1
                  obtain ⟨rfl, _, rfl⟩ := e2
                  exact ⟨_, _, _, _, by rw [List.length_append, List.length_singleton, HLN.out], l1, l2, below_same (st3_below HL.out.bl HL.out.rw (.int .i64 0) (.slice (some ⟨g, 0, none⟩) (LN + 1) cap) (.slice (some ⟨g2, 0, none⟩) (LN + 1) cp2)) rfl rfl rfl rfl, fun b o h => own_ge HL.out.r1 HL.out.wb h, fun b o h => own_ge HL.out.r2 HL.out.wb h⟩
              case true =>
                obtain ⟨xq, d2, d3, d4⟩ := bit_t (f := n2 s.data.toList a) (m := 256) (by omega) (by omega) h256
                have d2 : bits .and .i64 ((n2 s.data.toList a : Nat) : Int) 256 = xq := d2
                by_cases hi2 : AP + 2 ≤ s.size
                case neg =>
                  have hi2' : (s.size : Int) < (AP : Int) + 2 := by omega
                  have E := hide (show comW s.data.toList R = none by
                    rw [← K3.out, cmp_ins HM.out (by rw [← HAP.out]; exact hle) h32 h256, ← HAP.out]
                    unfold insV
                    rw [if_neg (fun hh => hi2 hh.1)]; rfl)
                  clear h32 h256
                  have kr3 := HL.out.kr.three
                  obtain ⟨⟨r0, r1, r2⟩, z0, z1, z2⟩ := kr3
                  go_wp2_with fail
                  refine rc_fin (t := false) (st3 HL.out.kr (.int .i64 0) (.slice none 0 0) (.slice none 0 0)) rfl rfl rfl ?_
                  rw [E.out]
                  exact ⟨none, 0, 0, none, 0, 0, rfl, below_same (st3_below HL.out.bl HL.out.rw (.int .i64 0) (.slice none 0 0) (.slice none 0 0)) rfl rfl rfl rfl⟩
                have hi2' : ¬ (s.size : Int) < (AP : Int) + 2 := by omega
                have hQ := n2_lt s.data.toList AP
                have CI := hide (fun z' w (hz : z' = (AP : Int)) => CU.out AP z' w hz hi2)
                have E := hide (show comW s.data.toList R = if tailB s.data.toList (AP + 2 + n2 s.data.toList AP) = true then some (acc ++ [a + 2]) else none by
                  rw [← K3.out, cmp_ins HM.out (by rw [← HAP.out]; exact hle) h32 h256, ← HAP.out]
                  unfold insV
                  by_cases hi3 : AP + 2 + n2 s.data.toList AP ≤ s.size
                  · rw [if_pos ⟨hi2, hi3⟩]; rfl
                  · rw [if_neg (fun hh => hi3 hh.2)]
                    have : tailB s.data.toList (AP + 2 + n2 s.data.toList AP) = false := by unfold tailB; rw [decide_eq_false (by rw [← Lib.size_eq]; exact hi3)]; rfl
                    rw [this]; rfl)
                obtain ⟨AQ, hAQ⟩ : ∃ AQ, AQ = AP + 2 + n2 s.data.toList AP := ⟨_, rfl⟩
                have CZ := hide (fun z' w (hz : z' = (AQ : Int)) => rzeros_any s AQ z' w hz hs (by omega))
                rw [← hAQ] at E
                have hEQ : (AP : Int) + (2 + ((n2 s.data.toList AP : Nat) : Int)) = (AQ : Int) := by omega
                have hq1 : ((n2 s.data.toList AP : Nat) : Int) ≤ 65535 := by omega
                generalize n2 s.data.toList AP = Q at CI hEQ hq1
                generalize tailB s.data.toList AQ = t at CZ E
                clear h32 h256 hAQ hQ
                go_wp2_with fail
                refine (CI.out _ _ rfl).mono ?_
                rintro e wq ⟨rfl, m2, hw⟩
                replace HL := hide (HL.out.same (u := wq) (by rw [hw]; exact below_drewN' _ m2))
                clear hw
                obtain ⟨⟨r0, r1, r2⟩, z0, z1, z2⟩ := HL.out.kr.three
                obtain ⟨⟨y0, y1, y2⟩, _, _, _⟩ := HL.out.ky.three
                have hry := HL.out.ry
                have hrl := HL.out.kr.lt
                have hyl := HL.out.ky.lt
                go_wp2_with fail
                go_region_held3 (fun x => x.cell? ⟨yb, 0, none⟩ = some (.int .i64 0) ∧ x.cell? ⟨yb, 1, none⟩ = some (.slice (some ⟨g, 0, none⟩) (LN + 1) cap) ∧ x.cell? ⟨yb, 2, none⟩ = some (.slice (some ⟨g2, 0, none⟩) (LN + 1) cp2)) (first | go_keep | exact ⟨by rw [cell_other (Ne.symm hry), cell_other (Ne.symm hry), cell_other (Ne.symm hry)]; exact y0, by rw [cell_other (Ne.symm hry), cell_other (Ne.symm hry), cell_other (Ne.symm hry)]; exact y1, by rw [cell_other (Ne.symm hry), cell_other (Ne.symm hry), cell_other (Ne.symm hry)]; exact y2⟩) ((go_at_call 73; refine (CZ.out _ _ (by omega)).mono ?_; rintro e wv ⟨rfl, hv⟩; subst wv))
                go_wp2_with fail
                refine rc_fin (t := t) (st3 HL.out.kr (.int .i64 0) (.slice (some ⟨g, 0, none⟩) (LN + 1) cap) (.slice (some ⟨g2, 0, none⟩) (LN + 1) cp2)) rfl (by rfl) rfl ?_
                rw [E.out]
                cases t
                · exact ⟨_, _, _, _, _, _, rfl, below_same (st3_below HL.out.bl HL.out.rw (.int .i64 0) (.slice (some ⟨g, 0, none⟩) (LN + 1) cap) (.slice (some ⟨g2, 0, none⟩) (LN + 1) cp2)) rfl rfl rfl rfl⟩
                · have hi1 := irow_set (o := 2) (irow_set (o := 1) (irow_set (o := 0) HL.out.r1 HL.out.rb (.int .i64 0)) HL.out.rb (.slice (some ⟨g, 0, none⟩) (LN + 1) cap)) HL.out.rb (.slice (some ⟨g2, 0, none⟩) (LN + 1) cp2)
                  have hi2 := irow_set (o := 2) (irow_set (o := 1) (irow_set (o := 0) HL.out.r2 HL.out.rb (.int .i64 0)) HL.out.rb (.slice (some ⟨g, 0, none⟩) (LN + 1) cap)) HL.out.rb (.slice (some ⟨g2, 0, none⟩) (LN + 1) cp2)
                  obtain ⟨_, _, e1, l1, _⟩ := hi1.lst
                  obtain ⟨_, _, e2, l2, _⟩ := hi2.lst
                  simp only [Value.slice.injEq] at e1 e2
                  obtain ⟨rfl, _, rfl⟩ := e1
                  obtain ⟨rfl, _, rfl⟩ := e2
                  exact ⟨_, _, _, _, by rw [List.length_append, List.length_singleton, HLN.out], l1, l2, below_same (st3_below HL.out.bl HL.out.rw (.int .i64 0) (.slice (some ⟨g, 0, none⟩) (LN + 1) cap) (.slice (some ⟨g2, 0, none⟩) (LN + 1) cp2)) rfl rfl rfl rfl, fun b o h => own_ge HL.out.r1 HL.out.wb h, fun b o h => own_ge HL.out.r2 HL.out.wb h⟩
          case true =>
            obtain ⟨xb, b1, b2, b3⟩ := bit_t (f := n2 s.data.toList a) (m := 1) (by omega) (by omega) h1
            have b1 : bits .and .i64 ((n2 s.data.toList a : Nat) : Int) 1 = xb := b1
            have hof : offs (n2 s.data.toList a) = 4 := by unfold offs; rw [h1]; rfl
            obtain ⟨AP, hAP⟩ : ∃ AP : Nat, AP = a + 4 + offs (n2 s.data.toList a) + k := ⟨_, rfl⟩
            have HAP := hide hAP
            have hEX : (a : Int) + (6 + (k : Int)) + 2 = (AP : Int) := by omega
            clear h1 hAP hof
            have hap1 : (AP : Int) ≤ 1000100 := by omega
            have hap0 : (0 : Int) ≤ (AP : Int) := by omega
            by_cases hle : AP ≤ s.size
            case neg =>
              have hle' : (s.size : Int) < (AP : Int) := by omega
              have E := hide (show comW s.data.toList R = none by rw [← K3.out, cmp_over HM.out (by rw [← HAP.out]; exact hle)]; rfl)
              have kr3 := HL.out.kr.three
              obtain ⟨⟨r0, r1, r2⟩, z0, z1, z2⟩ := kr3
              go_wp2_with fail
              refine rc_fin (t := false) (st3 HL.out.kr (.int .i64 0) (.slice none 0 0) (.slice none 0 0)) rfl rfl rfl ?_
              rw [E.out]
              exact ⟨none, 0, 0, none, 0, 0, rfl, below_same (st3_below HL.out.bl HL.out.rw (.int .i64 0) (.slice none 0 0) (.slice none 0 0)) rfl rfl rfl rfl⟩
            have hle' : ¬ (s.size : Int) < (AP : Int) := by omega
            cases h32 : hb (n2 s.data.toList a) 32
            case true =>
              obtain ⟨x32, d1, d2, d3⟩ := bit_t (f := n2 s.data.toList a) (m := 32) (by omega) (by omega) h32
              have d1 : bits .and .i64 ((n2 s.data.toList a : Nat) : Int) 32 = x32 := d1
              have E := hide (show cmpA s.data.toList s.size m AP (acc ++ [a + 2]) = R by rw [← K3.out, cmp_more HM.out (by rw [← HAP.out]; exact hle) h32, ← HAP.out])
              clear h32
              go_wp2_with fail
              go_roundg m
              case measure => have := HG.out; omega
              case rel => exact ⟨m, AP, acc ++ [a + 2], _, _, rfl, hide ⟨rfl, by rw [List.length_append, List.length_singleton, HLN.out]; have := K1.out; omega, hle, E.out, HL.out⟩⟩
            case false =>
              have d1 : bits .and .i64 ((n2 s.data.toList a : Nat) : Int) 32 = 0 := bit_f (m := 32) (by omega) (by omega) h32
              cases h256 : hb (n2 s.data.toList a) 256
              case false =>
                have d2 : bits .and .i64 ((n2 s.data.toList a : Nat) : Int) 256 = 0 := bit_f (m := 256) (by omega) (by omega) h256
                have E := hide (show comW s.data.toList R = if tailB s.data.toList AP = true then some (acc ++ [a + 2]) else none by rw [← K3.out, cmp_done HM.out (by rw [← HAP.out]; exact hle) h32 h256, ← HAP.out]; rfl)
                have CZ := hide (fun z' w (hz : z' = (AP : Int)) => rzeros_any s AP z' w hz hs (by omega))
                generalize tailB s.data.toList AP = t at CZ E
                clear h32 h256
                obtain ⟨⟨r0, r1, r2⟩, z0, z1, z2⟩ := HL.out.kr.three
                obtain ⟨⟨y0, y1, y2⟩, _, _, _⟩ := HL.out.ky.three
                have hry := HL.out.ry
                have hrl := HL.out.kr.lt
                have hyl := HL.out.ky.lt
                go_wp2_with fail
                go_region_held3 (fun x => x.cell? ⟨yb, 0, none⟩ = some (.int .i64 0) ∧ x.cell? ⟨yb, 1, none⟩ = some (.slice (some ⟨g, 0, none⟩) (LN + 1) cap) ∧ x.cell? ⟨yb, 2, none⟩ = some (.slice (some ⟨g2, 0, none⟩) (LN + 1) cp2)) (first | go_keep | exact ⟨by rw [cell_other (Ne.symm hry), cell_other (Ne.symm hry), cell_other (Ne.symm hry)]; exact y0, by rw [cell_other (Ne.symm hry), cell_other (Ne.symm hry), cell_other (Ne.symm hry)]; exact y1, by rw [cell_other (Ne.symm hry), cell_other (Ne.symm hry), cell_other (Ne.symm hry)]; exact y2⟩) ((go_at_call 73; refine (CZ.out _ _ (by omega)).mono ?_; rintro e wv ⟨rfl, hv⟩; subst wv))
                go_wp2_with fail
                refine rc_fin (t := t) (st3 HL.out.kr (.int .i64 0) (.slice (some ⟨g, 0, none⟩) (LN + 1) cap) (.slice (some ⟨g2, 0, none⟩) (LN + 1) cp2)) rfl (by rfl) rfl ?_
                rw [E.out]
                cases t
                · exact ⟨_, _, _, _, _, _, rfl, below_same (st3_below HL.out.bl HL.out.rw (.int .i64 0) (.slice (some ⟨g, 0, none⟩) (LN + 1) cap) (.slice (some ⟨g2, 0, none⟩) (LN + 1) cp2)) rfl rfl rfl rfl⟩
                · have hi1 := irow_set (o := 2) (irow_set (o := 1) (irow_set (o := 0) HL.out.r1 HL.out.rb (.int .i64 0)) HL.out.rb (.slice (some ⟨g, 0, none⟩) (LN + 1) cap)) HL.out.rb (.slice (some ⟨g2, 0, none⟩) (LN + 1) cp2)
                  have hi2 := irow_set (o := 2) (irow_set (o := 1) (irow_set (o := 0) HL.out.r2 HL.out.rb (.int .i64 0)) HL.out.rb (.slice (some ⟨g, 0, none⟩) (LN + 1) cap)) HL.out.rb (.slice (some ⟨g2, 0, none⟩) (LN + 1) cp2)
                  obtain ⟨_, _, e1, l1, _⟩ := hi1.lst
                  obtain ⟨_, _, e2, l2, _⟩ := hi2.lst
                  simp only [Value.slice.injEq] at e1 e2
                  obtain ⟨rfl, _, rfl⟩ := e1
                  obtain ⟨rfl, _, rfl⟩ := e2
                  exact ⟨_, _, _, _, by rw [List.length_append, List.length_singleton, HLN.out], l1, l2, below_same (st3_below HL.out.bl HL.out.rw (.int .i64 0) (.slice (some ⟨g, 0, none⟩) (LN + 1) cap) (.slice (some ⟨g2, 0, none⟩) (LN + 1) cp2)) rfl rfl rfl rfl, fun b o h => own_ge HL.out.r1 HL.out.wb h, fun b o h => own_ge HL.out.r2 HL.out.wb h⟩
              case true =>
                obtain ⟨xq, d2, d3, d4⟩ := bit_t (f := n2 s.data.toList a) (m := 256) (by omega) (by omega) h256
                have d2 : bits .and .i64 ((n2 s.data.toList a : Nat) : Int) 256 = xq := d2
                by_cases hi2 : AP + 2 ≤ s.size
                case neg =>
                  have hi2' : (s.size : Int) < (AP : Int) + 2 := by omega
                  have E := hide (show comW s.data.toList R = none by
                    rw [← K3.out, cmp_ins HM.out (by rw [← HAP.out]; exact hle) h32 h256, ← HAP.out]
                    unfold insV
                    rw [if_neg (fun hh => hi2 hh.1)]; rfl)
                  clear h32 h256
                  have kr3 := HL.out.kr.three
                  obtain ⟨⟨r0, r1, r2⟩, z0, z1, z2⟩ := kr3
                  go_wp2_with fail
                  refine rc_fin (t := false) (st3 HL.out.kr (.int .i64 0) (.slice none 0 0) (.slice none 0 0)) rfl rfl rfl ?_
                  rw [E.out]
                  exact ⟨none, 0, 0, none, 0, 0, rfl, below_same (st3_below HL.out.bl HL.out.rw (.int .i64 0) (.slice none 0 0) (.slice none 0 0)) rfl rfl rfl rfl⟩
                have hi2' : ¬ (s.size : Int) < (AP : Int) + 2 := by omega
                have hQ := n2_lt s.data.toList AP
                have CI := hide (fun z' w (hz : z' = (AP : Int)) => CU.out AP z' w hz hi2)
                have E := hide (show comW s.data.toList R = if tailB s.data.toList (AP + 2 + n2 s.data.toList AP) = true then some (acc ++ [a + 2]) else none by
                  rw [← K3.out, cmp_ins HM.out (by rw [← HAP.out]; exact hle) h32 h256, ← HAP.out]
                  unfold insV
                  by_cases hi3 : AP + 2 + n2 s.data.toList AP ≤ s.size
                  · rw [if_pos ⟨hi2, hi3⟩]; rfl
                  · rw [if_neg (fun hh => hi3 hh.2)]
                    have : tailB s.data.toList (AP + 2 + n2 s.data.toList AP) = false := by unfold tailB; rw [decide_eq_false (by rw [← Lib.size_eq]; exact hi3)]; rfl
                    rw [this]; rfl)
                obtain ⟨AQ, hAQ⟩ : ∃ AQ, AQ = AP + 2 + n2 s.data.toList AP := ⟨_, rfl⟩
                have CZ := hide (fun z' w (hz : z' = (AQ : Int)) => rzeros_any s AQ z' w hz hs (by omega))
                rw [← hAQ] at E
                have hEQ : (AP : Int) + (2 + ((n2 s.data.toList AP : Nat) : Int)) = (AQ : Int) := by omega
                have hq1 : ((n2 s.data.toList AP : Nat) : Int) ≤ 65535 := by omega
                generalize n2 s.data.toList AP = Q at CI hEQ hq1
                generalize tailB s.data.toList AQ = t at CZ E
                clear h32 h256 hAQ hQ
                go_wp2_with fail
                refine (CI.out _ _ rfl).mono ?_
                rintro e wq ⟨rfl, m2, hw⟩
                replace HL := hide (HL.out.same (u := wq) (by rw [hw]; exact below_drewN' _ m2))
                clear hw
                obtain ⟨⟨r0, r1, r2⟩, z0, z1, z2⟩ := HL.out.kr.three
                obtain ⟨⟨y0, y1, y2⟩, _, _, _⟩ := HL.out.ky.three
                have hry := HL.out.ry
                have hrl := HL.out.kr.lt
                have hyl := HL.out.ky.lt
                go_wp2_with fail
                go_region_held3 (fun x => x.cell? ⟨yb, 0, none⟩ = some (.int .i64 0) ∧ x.cell? ⟨yb, 1, none⟩ = some (.slice (some ⟨g, 0, none⟩) (LN + 1) cap) ∧ x.cell? ⟨yb, 2, none⟩ = some (.slice (some ⟨g2, 0, none⟩) (LN + 1) cp2)) (first | go_keep | exact ⟨by rw [cell_other (Ne.symm hry), cell_other (Ne.symm hry), cell_other (Ne.symm hry)]; exact y0, by rw [cell_other (Ne.symm hry), cell_other (Ne.symm hry), cell_other (Ne.symm hry)]; exact y1, by rw [cell_other (Ne.symm hry), cell_other (Ne.symm hry), cell_other (Ne.symm hry)]; exact y2⟩) ((go_at_call 73; refine (CZ.out _ _ (by omega)).mono ?_; rintro e wv ⟨rfl, hv⟩; subst wv))
                go_wp2_with fail
                refine rc_fin (t := t) (st3 HL.out.kr (.int .i64 0) (.slice (some ⟨g, 0, none⟩) (LN + 1) cap) (.slice (some ⟨g2, 0, none⟩) (LN + 1) cp2)) rfl (by rfl) rfl ?_
                rw [E.out]
                cases t
                · exact ⟨_, _, _, _, _, _, rfl, below_same (st3_below HL.out.bl HL.out.rw (.int .i64 0) (.slice (some ⟨g, 0, none⟩) (LN + 1) cap) (.slice (some ⟨g2, 0, none⟩) (LN + 1) cp2)) rfl rfl rfl rfl⟩
                · have hi1 := irow_set (o := 2) (irow_set (o := 1) (irow_set (o := 0) HL.out.r1 HL.out.rb (.int .i64 0)) HL.out.rb (.slice (some ⟨g, 0, none⟩) (LN + 1) cap)) HL.out.rb (.slice (some ⟨g2, 0, none⟩) (LN + 1) cp2)
                  have hi2 := irow_set (o := 2) (irow_set (o := 1) (irow_set (o := 0) HL.out.r2 HL.out.rb (.int .i64 0)) HL.out.rb (.slice (some ⟨g, 0, none⟩) (LN + 1) cap)) HL.out.rb (.slice (some ⟨g2, 0, none⟩) (LN + 1) cp2)
                  obtain ⟨_, _, e1, l1, _⟩ := hi1.lst
                  obtain ⟨_, _, e2, l2, _⟩ := hi2.lst
                  simp only [Value.slice.injEq] at e1 e2
                  obtain ⟨rfl, _, rfl⟩ := e1
                  obtain ⟨rfl, _, rfl⟩ := e2
                  exact ⟨_, _, _, _, by rw [List.length_append, List.length_singleton, HLN.out], l1, l2, below_same (st3_below HL.out.bl HL.out.rw (.int .i64 0) (.slice (some ⟨g, 0, none⟩) (LN + 1) cap) (.slice (some ⟨g2, 0, none⟩) (LN + 1) cp2)) rfl rfl rfl rfl, fun b o h => own_ge HL.out.r1 HL.out.wb h, fun b o h => own_ge HL.out.r2 HL.out.wb h⟩
def SmR (w : World) (R : Option Nat) (e : Ending) (w' : World) : Prop := match R with
  | some p => e = .returned (.tuple #[.agg #[.int .i64 (p : Int), .slice none 0 0, .slice none 0 0], .bool true]) ∧ Below w.heap.size w w'
  | none => ∃ p : Nat, p ≤ 65536 ∧ e = .returned (.tuple #[.agg #[.int .i64 (p : Int), .slice none 0 0, .slice none 0 0], .bool false]) ∧ Below w.heap.size w w'
theorem rs_fin {R : Ending → World → Prop} {a : Act} {V : World} {B : Nat} {x y z : Value} {t : Bool} (hk : Blk V B #[x, y, z] 85) (h4 : a.tmps[4]?.getD undef = .pointer (some ⟨B, 0, none⟩)) (h5 : a.tmps[5]?.getD undef = .bool t) (hd : a.defers = []) (h : R (.returned (.tuple #[.agg #[x, y, z], .bool t])) V) :
    bodyPost Tryd.prog Tryd.f58 R Exit.ret a V := by
  obtain ⟨⟨f0, f1, f2⟩, _⟩ := hk.three
  refine bodyPost_ret (v := .tuple #[.agg #[x, y, z], .bool t]) ?_ hd h
  simp [results, Tryd.results58, go_sem, f0, f1, f2, h4, h5]
theorem sim_short {l : List UInt8} {c : Nat} (h : ¬ 12 + 2 * c ≤ l.length) : simV l c = none := by unfold simV; rw [if_neg (fun hh => h hh.1)]
theorem sim_rise {l : List UInt8} {c : Nat} (h : riseB l c = false) : simV l c = none := by unfold simV; rw [if_neg (fun hh => by rw [h] at hh; cases hh.2)]
def endV (l : List UInt8) (P : Nat) : Option (Nat × Nat) → Option Nat
  | none => none
  | some (a, z) => if tailB l (a + z) then some P else none
theorem sim_go {l : List UInt8} {c : Nat} (h : 12 + 2 * c ≤ l.length) (h2 : riseB l c = true) : simV l c = endV l (n2 l (8 + 2 * c) + 1) (flg l l.length (n2 l (8 + 2 * c) + 1) (n2 l (8 + 2 * c) + 1) (12 + 2 * c + n2 l (10 + 2 * c)) 0) := by
  unfold simV endV
  rw [if_pos ⟨h, h2⟩]
  cases flg l l.length (n2 l (8 + 2 * c) + 1) (n2 l (8 + 2 * c) + 1) (12 + 2 * c + n2 l (10 + 2 * c)) 0 <;> rfl
theorem wrap_mul (r A B P : Nat) (hr : r ≤ 255) (hA : A ≤ 2) (hB : B ≤ 2) (hP : P = (r + 1) * (A + B)) : wrap64 ((1 + (r : Int)) * ((A : Int) + (B : Int))) = (P : Int) ∧ P ≤ 1024 ∧ (1 + (r : Int)) * ((A : Int) + (B : Int)) = (P : Int) := by
  have h1 : (r + 1) * (A + B) ≤ 256 * 4 := Nat.mul_le_mul (by omega) (by omega)
  have h2 : (1 + (r : Int)) * ((A : Int) + (B : Int)) = (P : Int) := by rw [hP]; push_cast; rw [Int.add_comm 1 (r : Int)]
  rw [h2]
  refine ⟨?_, by omega, rfl⟩
  have : (0 : Int) ≤ (P : Int) ∧ (P : Int) ≤ 1024 := by omega
  unfold wrap64
  omega
set_option maxRecDepth 8000 in
set_option maxHeartbeats 4000000 in
theorem rsimple_any (s : ByteArray) (c : Nat) (w : World) (hs : s.size ≤ 1000000) (hc : 1 ≤ c) (hc2 : c ≤ 32767) (hN : 10 ≤ s.size) :
    Calls Tryd.prog 58 #[.string s, .int .i64 (c : Int)] w (SmR w (simV s.data.toList c)) := by
  obtain ⟨R, hR⟩ : ∃ R, simV s.data.toList c = R := ⟨_, rfl⟩
  rw [hR]
  have HR := hide hR
  have hs' : (s.size : Int) ≤ 1000000 := by omega
  have c1 : (1 : Int) ≤ (c : Int) := by omega
  have c2 : (c : Int) ≤ 32767 := by omega
  have CU := hide (fun (k : Nat) (z : Int) (w : World) (hz : z = (k : Int)) (h : k + 2 ≤ s.size) => ru2_any s k z w hz h (by omega))
  have CO := hide (fun (f o n : Nat) (w : World) (h1 : f ≤ 65535) (h2 : o ≤ 65535) (h3 : n ≤ 65535) => rone_any f o n w h1 h2 h3)
  have HK0 := hide (Blk.new w zs3 85)
  have HB0 : Hid (Below w.heap.size w (w.alloc (.cells zs3 85))) := hide ((Below.refl _ _).alloc (Nat.le_refl _) _)
  obtain ⟨⟨r0, r1, r2⟩, z0, z1, z2⟩ := HK0.out.three
  by_cases h12 : 12 + 2 * c ≤ s.size
  case neg =>
    have E := hide (show R = none by rw [← HR.out, sim_short (by rw [← Lib.size_eq]; exact h12)])
    have hlt : (s.size : Int) < 10 + 2 * (c : Int) + 2 := by omega
    clear hR h12
    go_enter Tryd.func58, Tryd.ntmps58
    go_upto_region 1 with (fail)
    generalize w.alloc (.cells zs3 85) = V at HK0 HB0 r0 r1 r2 z0 z1 z2 ⊢
    go_wp2_with fail
    refine rs_fin (st3 HK0.out (.int .i64 0) (.slice none 0 0) (.slice none 0 0)) rfl rfl rfl ?_
    rw [E.out]
    exact ⟨0, by omega, rfl, st3_below HB0.out (Nat.le_refl _) _ _ _⟩
  have hge : ¬ (s.size : Int) < 10 + 2 * (c : Int) + 2 := by omega
  have H12 := hide h12
  clear hR
  go_enter Tryd.func58, Tryd.ntmps58
  go_upto_region 1 with (fail)
  generalize w.alloc (.cells zs3 85) = V at HK0 HB0 r0 r1 r2 z0 z1 z2 ⊢
  go_wp2_with fail
  go_loopw [7] (fun v wr => ∃ k m : Nat, v = .int .i64 (k : Int) ∧ wr = V.drewN m ∧ Hid (1 ≤ k ∧ k ≤ c ∧ ∀ i, i + 1 < k → n2 s.data.toList (10 + 2 * i) < n2 s.data.toList (12 + 2 * i))) (fun v _ => c - (intOf v).toNat)
  case atStart => exact ⟨1, 0, rfl, rfl, hide ⟨by omega, hc, fun i hi => by omega⟩⟩
  case round =>
    obtain ⟨k, m, rfl, rfl, HV⟩ := hrel
    obtain ⟨k0, k1, k2⟩ := HV.out
    have hk0 : (1 : Int) ≤ (k : Int) := by omega
    have hk1 : (k : Int) ≤ 32767 := by omega
    have K2 := hide k2
    clear HV k2
    by_cases hk : k < c
    · have hk' : (k : Int) < (c : Int) := by omega
      obtain ⟨j, hj⟩ : ∃ j, k = j + 1 := ⟨k - 1, by omega⟩
      have HJ := hide hj
      clear hj
      have hn1 := n2_lt s.data.toList (10 + 2 * k)
      have hn2 := n2_lt s.data.toList (8 + 2 * k)
      by_cases hle : n2 s.data.toList (10 + 2 * k) ≤ n2 s.data.toList (8 + 2 * k)
      · have hle' : ((n2 s.data.toList (10 + 2 * k) : Nat) : Int) ≤ ((n2 s.data.toList (8 + 2 * k) : Nat) : Int) := by omega
        have E := hide (show R = none by
          rw [← HR.out, sim_rise]
          cases e : riseB s.data.toList c with
          | false => rfl
          | true =>
            have hj := HJ.out
            have := (rise_iff _ _).1 e j (by omega)
            rw [show 10 + 2 * k = 12 + 2 * j by omega, show 8 + 2 * k = 10 + 2 * j by omega] at hle
            omega)
        go_wp2_with fail
        refine (CU.out (10 + 2 * k) _ _ (by omega) (by omega)).mono ?_
        rintro e wy ⟨rfl, m1, hy⟩
        subst wy
        go_wp2_with fail
        refine (CU.out (8 + 2 * k) _ _ (by omega) (by omega)).mono ?_
        rintro e wy ⟨rfl, m2, hy⟩
        subst wy
        go_wp2_with fail
        refine rs_fin (st3 HK0.out (.int .i64 0) (.slice none 0 0) (.slice none 0 0)) rfl rfl rfl ?_
        rw [E.out]
        exact ⟨0, by omega, rfl, below_same (st3_below HB0.out (Nat.le_refl _) (.int .i64 0) (.slice none 0 0) (.slice none 0 0)) rfl rfl rfl rfl⟩
      · have hle' : ¬ ((n2 s.data.toList (10 + 2 * k) : Nat) : Int) ≤ ((n2 s.data.toList (8 + 2 * k) : Nat) : Int) := by omega
        have K3 : Hid (∀ i, i + 1 < k + 1 → n2 s.data.toList (10 + 2 * i) < n2 s.data.toList (12 + 2 * i)) := hide fun i hi => by
          have hj := HJ.out
          by_cases e : i + 1 < k
          · exact K2.out i e
          · obtain rfl : i = j := by omega
            rw [show 10 + 2 * k = 12 + 2 * i by omega, show 8 + 2 * k = 10 + 2 * i by omega] at hle
            omega
        go_wp2_with fail
        refine (CU.out (10 + 2 * k) _ _ (by omega) (by omega)).mono ?_
        rintro e wy ⟨rfl, m1, hy⟩
        subst wy
        go_wp2_with fail
        refine (CU.out (8 + 2 * k) _ _ (by omega) (by omega)).mono ?_
        rintro e wy ⟨rfl, m2, hy⟩
        subst wy
        go_wp2_with fail
        go_roundw
        case rel => exact ⟨k + 1, m + m1 + m2, by go_num, rfl, hide ⟨by omega, by omega, K3.out⟩⟩
        case measure => simp [intOf]; omega
    · obtain rfl : k = c := by omega
      have hk' : ¬ (k : Int) < (k : Int) := by omega
      have HG := hide (sim_go (l := s.data.toList) (c := k) (by rw [← Lib.size_eq]; exact H12.out) ((rise_iff _ _).2 K2.out))
      rw [HR.out, ← Lib.size_eq] at HG
      have hp := n2_lt s.data.toList (8 + 2 * k)
      have hq := n2_lt s.data.toList (10 + 2 * k)
      have d1 : 8 + 2 * k + 2 ≤ s.size := by omega
      have d2 : 10 + 2 * k + 2 ≤ s.size := by omega
      have C1 := hide (fun z w (hz : z = ((8 + 2 * k : Nat) : Int)) => CU.out (8 + 2 * k) z w hz d1)
      have C2 := hide (fun z w (hz : z = ((10 + 2 * k : Nat) : Int)) => CU.out (10 + 2 * k) z w hz d2)
      generalize n2 s.data.toList (8 + 2 * k) = P0 at HG hp C1
      generalize n2 s.data.toList (10 + 2 * k) = Q0 at HG hq C2
      have p1 : (P0 : Int) ≤ 65535 := by omega
      have q1 : (Q0 : Int) ≤ 65535 := by omega
      clear hk K2
      go_wp2_with fail
      refine (C1.out _ _ (by omega)).mono ?_
      rintro e wy ⟨rfl, m1, hy⟩
      subst wy
      go_wp2_with fail
      refine (C2.out _ _ (by omega)).mono ?_
      rintro e wy ⟨rfl, m2, hy⟩
      subst wy
      go_wp2_with fail
      have HKd : Hid (Blk (V.drewN (m + m1 + m2)) w.heap.size zs3 85) := hide HK0.out
      have HBd : Hid (Below w.heap.size w (V.drewN (m + m1 + m2))) := hide (below_drewN HB0.out _)
      generalize V.drewN (m + m1 + m2) = V2 at HKd HBd ⊢
      clear HK0 HB0 C1 C2 CU r0 r1 r2 z0 z1 z2
      obtain ⟨⟨r0, r1, r2⟩, z0, z1, z2⟩ := HKd.out.three
      go_loop [6, 9, 10] (fun va vn vz => ∃ (a n z : Nat), va = .int .i64 (a : Int) ∧ vn = .int .i64 (n : Int) ∧ vz = .int .i64 (z : Int) ∧ Hid (a ≤ 200000 + 2 * n ∧ n ≤ P0 + 256 ∧ z ≤ 4 * n ∧ ((n ≤ P0 + 1 ∧ ∃ f, P0 + 1 - n ≤ f ∧ R = endV s.data.toList (P0 + 1) (flg s.data.toList s.size f (P0 + 1 - n) a z)) ∨ (P0 + 1 < n ∧ R = none)))) (fun _ vn _ => P0 + 1 - (intOf vn).toNat)
      case atStart => exact ⟨12 + 2 * k + Q0, 0, 0, congrArg (Value.int .i64) (by omega), rfl, rfl, hide ⟨by omega, by omega, by omega, Or.inl ⟨by omega, P0 + 1, by omega, HG.out⟩⟩⟩
      case round =>
        obtain ⟨a, n, z, rfl, rfl, rfl, HV⟩ := hrel
        obtain ⟨a1, n1, zz, hv⟩ := HV.out
        have HVV := hide hv
        have ha0 : (0 : Int) ≤ (a : Int) := by omega
        have hn0 : (0 : Int) ≤ (n : Int) := by omega
        have hz0 : (0 : Int) ≤ (z : Int) := by omega
        have ha2 : (a : Int) ≤ 400000 := by omega
        have hn2 : (n : Int) ≤ 65791 := by omega
        have hz2 : (z : Int) ≤ 263164 := by omega
        clear HV hv HG
        by_cases hlt : n < P0 + 1
        case neg =>
          have hlt' : ¬ (n : Int) < (P0 : Int) + 1 := by omega
          by_cases hn : n = P0 + 1
          · have hnq : ((n : Int) == (P0 : Int) + 1) = true := by rw [beq_iff_eq]; omega
            have E : Hid (R = if tailB s.data.toList (a + z) = true then some (P0 + 1) else none) := hide (by
              rcases HVV.out with ⟨_, f, hf, h⟩ | ⟨h, _⟩
              · rw [h, hn, Nat.sub_self, flg_zero]; rfl
              · omega)
            have CZ := hide (fun z' w (hz : z' = ((a + z : Nat) : Int)) => rzeros_any s (a + z) z' w hz (by omega) (by omega))
            generalize tailB s.data.toList (a + z) = t at CZ E
            clear hlt hn HVV
            go_wp2_with fail
            refine (CZ.out _ _ (by omega)).mono ?_
            rintro e wy ⟨rfl, hy⟩
            subst wy
            go_wp2_with fail
            refine rs_fin (t := t) (st3 HKd.out (.int .i64 ((P0 : Int) + 1)) (.slice none 0 0) (.slice none 0 0)) rfl (by rfl) rfl ?_
            rw [E.out]
            cases t
            · exact ⟨P0 + 1, by omega, by push_cast; rfl, st3_below HBd.out (Nat.le_refl _) _ _ _⟩
            · exact ⟨by push_cast; rfl, st3_below HBd.out (Nat.le_refl _) _ _ _⟩
          · have hnq : ((n : Int) == (P0 : Int) + 1) = false := by rw [beq_eq_false_iff_ne]; omega
            have E : Hid (R = none) := hide (by
              rcases HVV.out with ⟨h, _⟩ | ⟨_, h⟩
              · omega
              · exact h)
            clear hlt hn HVV
            go_wp2_with fail
            refine rs_fin (t := false) (st3 HKd.out (.int .i64 ((P0 : Int) + 1)) (.slice none 0 0) (.slice none 0 0)) rfl rfl rfl ?_
            rw [E.out]
            exact ⟨P0 + 1, by omega, by push_cast; rfl, st3_below HBd.out (Nat.le_refl _) _ _ _⟩
        have hlt' : (n : Int) < (P0 : Int) + 1 := by omega
        obtain ⟨f, hf, hRf⟩ : ∃ f, P0 + 1 - n ≤ f + 1 ∧ R = endV s.data.toList (P0 + 1) (flg s.data.toList s.size (f + 1) (P0 + 1 - n) a z) := by
          rcases HVV.out with ⟨_, f, hf, h⟩ | ⟨h, _⟩
          · exact ⟨f - 1, by omega, by rw [show f - 1 + 1 = f by omega]; exact h⟩
          · omega
        have HRF := hide hRf
        clear HVV hRf
        by_cases has : a < s.size
        case neg =>
          have has' : (s.size : Int) ≤ (a : Int) := by omega
          have E := hide (show R = none by rw [HRF.out, flg_end _ _ _ _ _ _ (by omega) has]; rfl)
          go_wp2_with fail
          refine rs_fin (t := false) (st3 HKd.out (.int .i64 0) (.slice none 0 0) (.slice none 0 0)) rfl rfl rfl ?_
          rw [E.out]
          exact ⟨0, by omega, rfl, st3_below HBd.out (Nat.le_refl _) _ _ _⟩
        have has' : ¬ (s.size : Int) ≤ (a : Int) := by omega
        have has2 : (a : Int) < (s.size : Int) := by omega
        have hbt := bt_at s a has
        have hF := s[a].toNat_lt
        have CA := hide (fun w => CO.out s[a].toNat 2 16 w (by omega) (by omega) (by omega))
        have CB := hide (fun w => CO.out s[a].toNat 4 32 w (by omega) (by omega) (by omega))
        have ba := wid_le s[a].toNat 2 16
        have bb := wid_le s[a].toNat 4 32
        have HW : Hid (wxy (bt s.data.toList a) = wid s[a].toNat 2 16 + wid s[a].toNat 4 32) := hide (by rw [hbt]; rfl)
        generalize wid s[a].toNat 2 16 = A at CA ba HW
        generalize wid s[a].toNat 4 32 = B at CB bb HW
        have ba' : (A : Int) ≤ 2 := by omega
        have bb' : (B : Int) ≤ 2 := by omega
        have hFi : (s[a].toNat : Int) ≤ 255 := by omega
        cases h8 : hb (bt s.data.toList a) 8
        case false =>
          have E := hide (show R = endV s.data.toList (P0 + 1) (flg s.data.toList s.size f (P0 + 1 - n - 1) (a + 1) (z + wxy (bt s.data.toList a))) by rw [HRF.out, flg_one _ _ _ _ _ _ (by omega) has h8])
          have e1 : bits .and .i64 (s[a].toNat : Int) 8 = 0 := bit_f (m := 8) (by omega) (by omega) (by rw [← hbt]; exact h8)
          clear h8 hbt hF
          go_wp2_with fail
          refine (CA.out _).mono ?_
          rintro e wy ⟨rfl, hy⟩
          subst wy
          go_wp2_with fail
          refine (CB.out _).mono ?_
          rintro e wy ⟨rfl, hy⟩
          subst wy
          go_wp2_with fail
          go_round
          case rel => exact ⟨a + 1, n + 1, z + (A + B), by go_num, by go_num, congrArg (Value.int .i64) (by omega), hide ⟨by omega, by omega, by omega, Or.inl ⟨by omega, f, by omega, by rw [← HW.out, show P0 + 1 - (n + 1) = P0 + 1 - n - 1 by omega]; exact E.out⟩⟩⟩
          case measure => simp [intOf]; omega
        case true =>
          obtain ⟨x, e1, e2, e3⟩ := bit_t (f := s[a].toNat) (m := 8) (by omega) (by omega) (by rw [← hbt]; exact h8)
          have e1 : bits .and .i64 (s[a].toNat : Int) 8 = x := e1
          by_cases ha1 : a + 1 < s.size
          case neg =>
            have ha1' : (s.size : Int) ≤ (a : Int) + 1 := by omega
            have E := hide (show R = none by rw [HRF.out, flg_short _ _ _ _ _ _ (by omega) h8 ha1]; rfl)
            clear h8 hbt hF
            go_wp2_with fail
            refine rs_fin (t := false) (st3 HKd.out (.int .i64 0) (.slice none 0 0) (.slice none 0 0)) rfl rfl rfl ?_
            rw [E.out]
            exact ⟨0, by omega, rfl, st3_below HBd.out (Nat.le_refl _) _ _ _⟩
          have ha1' : ¬ (s.size : Int) ≤ (a : Int) + 1 := by omega
          have ha12 : (a : Int) + 1 < (s.size : Int) := by omega
          have ha13 : ((a : Int) + 1).toNat = a + 1 := by omega
          have hbt1 := bt_at s (a + 1) ha1
          have hG := s[a + 1].toNat_lt
          obtain ⟨PP, hPP⟩ : ∃ PP, PP = (s[a + 1].toNat + 1) * (A + B) := ⟨_, rfl⟩
          obtain ⟨wm, wl, wp⟩ := wrap_mul s[a + 1].toNat A B PP (by omega) ba bb hPP
          have WM := hide wm
          have WP := hide wp
          clear wm wp
          have wl' : (PP : Int) ≤ 1024 := by omega
          have HPP := hide hPP
          have wl2 : PP ≤ 4 * (s[a + 1].toNat + 1) := by rw [hPP, Nat.mul_comm]; exact Nat.mul_le_mul_right _ (by omega)
          have E : Hid ((s[a + 1].toNat + 1 ≤ P0 + 1 - n → R = endV s.data.toList (P0 + 1) (flg s.data.toList s.size f (P0 + 1 - n - (s[a + 1].toNat + 1)) (a + 2) (z + PP))) ∧ (¬ s[a + 1].toNat + 1 ≤ P0 + 1 - n → R = none)) := hide (by
            constructor
            · intro hk
              rw [HRF.out, flg_many _ _ _ _ _ _ (by omega) h8 ha1 (by rw [hbt1]; exact hk), hbt1, HW.out, ← hPP]
            · intro hk
              rw [HRF.out, flg_over _ _ _ _ _ _ (by omega) h8 (by rw [hbt1]; exact hk)]; rfl)
          have hGi : (s[a + 1].toNat : Int) ≤ 255 := by omega
          have hGn : s[a + 1].toNat ≤ 255 := by omega
          clear h8 hbt hF hbt1 hG hPP
          go_wp2_with fail
          refine (CA.out _).mono ?_
          rintro e wy ⟨rfl, hy⟩
          subst wy
          go_wp2_with fail
          refine (CB.out _).mono ?_
          rintro e wy ⟨rfl, hy⟩
          subst wy
          have wm := WM.out
          go_wp2_with fail
          clear wm
          go_round
          case rel =>
            refine ⟨a + 2, n + (s[a + 1].toNat + 1), z + PP, congrArg (Value.int .i64) (by omega), congrArg (Value.int .i64) (by omega), by first | (rw [show wrap64 ((z : Int) + (PP : Int)) = ((z + PP : Nat) : Int) by unfold wrap64; omega]) | (rw [WP.out]; exact congrArg (Value.int .i64) (by omega)) | (rw [WM.out]; exact congrArg (Value.int .i64) (by omega)) | exact congrArg (Value.int .i64) (by omega), hide ⟨by omega, by omega, by omega, ?_⟩⟩
            by_cases hk : s[a + 1].toNat + 1 ≤ P0 + 1 - n
            · exact Or.inl ⟨by omega, f, by omega, by rw [show P0 + 1 - (n + (s[a + 1].toNat + 1)) = P0 + 1 - n - (s[a + 1].toNat + 1) by omega]; exact E.out.1 hk⟩
            · exact Or.inr ⟨by omega, E.out.2 hk⟩
          case measure => simp [intOf]; omega
def OfR (w : World) (l : List UInt8) (R : Option (Nat × List Nat)) (e : Ending) (w' : World) : Prop := match R with
  | some (p, ps) => ∃ a1 c1 a2 c2, e = .returned (.tuple #[.agg #[.int .i64 (p : Int), .slice a1 ps.length c1, .slice a2 ps.length c2], .bool true]) ∧ Lst w' a1 (ints (prV l ps)) ∧ Lst w' a2 (ints ps) ∧ Below w.heap.size w w'
  | none => ∃ (p : Nat) (a1 : Option Addr) (n1 c1 : Nat) (a2 : Option Addr) (n2 c2 : Nat), p ≤ 65536 ∧ e = .returned (.tuple #[.agg #[.int .i64 (p : Int), .slice a1 n1 c1, .slice a2 n2 c2], .bool false]) ∧ Below w.heap.size w w'
theorem ro_fin {R : Ending → World → Prop} {a : Act} {V : World} {B : Nat} {x y z : Value} {t : Bool} (hk : Blk V B #[x, y, z] 85) (h4 : a.tmps[2]?.getD undef = .pointer (some ⟨B, 0, none⟩)) (h5 : a.tmps[3]?.getD undef = .bool t) (hd : a.defers = []) (h : R (.returned (.tuple #[.agg #[x, y, z], .bool t])) V) :
    bodyPost Tryd.prog Tryd.f42 R Exit.ret a V := by
  obtain ⟨⟨f0, f1, f2⟩, _⟩ := hk.three
  refine bodyPost_ret (v := .tuple #[.agg #[x, y, z], .bool t]) ?_ hd h
  simp [results, Tryd.results42, go_sem, f0, f1, f2, h4, h5]
theorem _root_.Go.Proofs.YthnpnkiomknkeaaDoor.Lst.st3 {V : World} {B : Nat} {a : Option Addr} {zs : List Int} (h : Lst V a zs) (hf : ∀ b o, a = some ⟨b, o, none⟩ → B < b) (x y z : Value) : Lst (((V.setCell ⟨B, 0, none⟩ x).setCell ⟨B, 1, none⟩ y).setCell ⟨B, 2, none⟩ z) a zs := by
  rcases h with h | ⟨b, off, h1, h2, h3⟩
  · exact Or.inl h
  · have hne : b ≠ B := by have := hf b off h1; omega
    refine Or.inr ⟨b, off, h1, by simp [World.setCell]; exact h2, fun i hi => ?_⟩
    rw [cell_other hne, cell_other hne, cell_other hne]
    exact h3 i hi
set_option maxRecDepth 8000 in
set_option maxHeartbeats 2000000 in
theorem rof_any (s : ByteArray) (w : World) (hs : s.size ≤ 1000000) : Calls Tryd.prog 42 #[.string s] w (OfR w s.data.toList (shV s.data.toList)) := by
  have hl : s.data.toList.length = s.size := (Lib.size_eq s).symm
  have hs' : (s.size : Int) ≤ 1000000 := by omega
  have HK0 := hide (Blk.new w zs3 85)
  have HB0 : Hid (Below w.heap.size w (w.alloc (.cells zs3 85))) := hide ((Below.refl _ _).alloc (Nat.le_refl _) _)
  have hsz : (w.alloc (.cells zs3 85)).heap.size = w.heap.size + 1 := by simp
  obtain ⟨⟨r0, r1, r2⟩, z0, z1, z2⟩ := HK0.out.three
  unfold shV
  rw [hl]
  by_cases h0 : s.size = 0
  · rw [if_pos h0]
    have he : (s.toList == []) = true := by
      rw [beq_iff_eq, Lib.toList_data]
      exact List.eq_nil_of_length_eq_zero (by rw [hl]; exact h0)
    clear hl h0 hsz
    go_enter Tryd.func42, Tryd.ntmps42
    go_upto_region 1 with (fail)
    generalize w.alloc (.cells zs3 85) = V at HK0 HB0 r0 r1 r2 z0 z1 z2 ⊢
    go_wp2_with fail
    refine ro_fin (t := true) (st3 HK0.out (.int .i64 0) (.slice none 0 0) (.slice none 0 0)) rfl rfl rfl ?_
    exact ⟨none, 0, none, 0, rfl, Or.inl rfl, Or.inl rfl, st3_below HB0.out (Nat.le_refl _) _ _ _⟩
  rw [if_neg h0]
  have hne : (s.toList == []) = false := by
    rw [beq_eq_false_iff_ne, Lib.toList_data]
    intro e
    rw [e] at hl
    simp at hl
    omega
  by_cases h1 : s.size < 10
  · rw [if_pos h1]
    have h1' : (s.size : Int) < 10 := by omega
    clear hl h0 hsz
    go_enter Tryd.func42, Tryd.ntmps42
    go_upto_region 1 with (fail)
    generalize w.alloc (.cells zs3 85) = V at HK0 HB0 r0 r1 r2 z0 z1 z2 ⊢
    go_wp2_with fail
    refine ro_fin (t := false) (st3 HK0.out (.int .i64 0) (.slice none 0 0) (.slice none 0 0)) rfl rfl rfl ?_
    exact ⟨0, none, 0, 0, none, 0, 0, by omega, rfl, st3_below HB0.out (Nat.le_refl _) _ _ _⟩
  rw [if_neg h1]
  have h1' : ¬ (s.size : Int) < 10 := by omega
  have CU := hide (fun (w : World) => ru2_any s 0 0 w rfl (by omega) (by omega))
  have hn := n2_lt s.data.toList 0
  by_cases h2 : n2 s.data.toList 0 = 65535
  · rw [if_pos h2]
    rw [h2] at CU
    have CC := hide (fun (w : World) => rcomp_any s w hs (by omega))
    generalize comV s.data.toList = R at CC ⊢
    clear hl h0 h2 hn r0 r1 r2 z0 z1 z2
    go_enter Tryd.func42, Tryd.ntmps42
    go_upto_region 1 with (fail)
    generalize w.alloc (.cells zs3 85) = V at HK0 HB0 hsz ⊢
    go_wp2_with fail
    refine (CU.out _).mono ?_
    rintro e wy ⟨rfl, m0, hy⟩
    have HK1 : Hid (Blk wy w.heap.size zs3 85) := hide (by rw [hy]; exact HK0.out)
    have HB1 : Hid (Below w.heap.size w wy) := hide (by rw [hy]; exact below_drewN HB0.out m0)
    have hsz1 : wy.heap.size = w.heap.size + 1 := by rw [hy]; exact hsz
    clear hy
    go_wp2_with fail
    have C := CC.out wy
    rcases R with _ | ps
    · refine C.mono ?_
      rintro e w1 ⟨a1, n1, c1, a2, n2', c2, rfl, h3⟩
      have HK2 := hide (HK1.out.below h3)
      have HB2 := hide (below_t5 HB1.out h3)
      obtain ⟨⟨r0, r1, r2⟩, z0, z1, z2⟩ := HK2.out.three
      clear h3
      go_wp2_with fail
      refine ro_fin (t := false) (st3 HK2.out (.int .i64 0) (.slice a1 n1 c1) (.slice a2 n2' c2)) rfl rfl rfl ?_
      exact ⟨0, a1, n1, c1, a2, n2', c2, by omega, rfl, st3_below HB2.out (Nat.le_refl _) _ _ _⟩
    · refine C.mono ?_
      rintro e w1 ⟨a1, c1, a2, c2, rfl, h4, h5, h3, h6, h7⟩
      have HK2 := hide (HK1.out.below h3)
      have HB2 := hide (below_t5 HB1.out h3)
      have HL1 := hide (h4.st3 (B := w.heap.size) (fun b o h => by have := h6 b o h; omega) (.int .i64 0) (.slice a1 ps.length c1) (.slice a2 ps.length c2))
      have HL2 := hide (h5.st3 (B := w.heap.size) (fun b o h => by have := h7 b o h; omega) (.int .i64 0) (.slice a1 ps.length c1) (.slice a2 ps.length c2))
      obtain ⟨⟨r0, r1, r2⟩, z0, z1, z2⟩ := HK2.out.three
      clear h3 h4 h5 h6 h7
      go_wp2_with fail
      refine ro_fin (t := true) (st3 HK2.out (.int .i64 0) (.slice a1 ps.length c1) (.slice a2 ps.length c2)) rfl rfl rfl ?_
      exact ⟨a1, c1, a2, c2, rfl, HL1.out, HL2.out, st3_below HB2.out (Nat.le_refl _) _ _ _⟩
  rw [if_neg h2]
  have t1 : (((n2 s.data.toList 0 : Nat) : Int) == 65535) = false := by rw [beq_eq_false_iff_ne]; omega
  by_cases h3 : 1 ≤ n2 s.data.toList 0 ∧ n2 s.data.toList 0 ≤ 32767
  · rw [if_pos h3]
    have CS := hide (fun (w : World) => rsimple_any s (n2 s.data.toList 0) w hs h3.1 h3.2 (by omega))
    generalize hR : simV s.data.toList (n2 s.data.toList 0) = R at CS ⊢
    generalize n2 s.data.toList 0 = c at CU CS t1 h3
    have t2 : decide ((c : Int) < 1) = false := by simp; omega
    have t3 : decide (32767 < (c : Int)) = false := by simp; omega
    clear hl h0 h2 hn r0 r1 r2 z0 z1 z2 hR
    go_enter Tryd.func42, Tryd.ntmps42
    go_upto_region 1 with (fail)
    generalize w.alloc (.cells zs3 85) = V at HK0 HB0 hsz ⊢
    go_wp2_with fail
    refine (CU.out _).mono ?_
    rintro e wy ⟨rfl, m0, hy⟩
    have HK1 : Hid (Blk wy w.heap.size zs3 85) := hide (by rw [hy]; exact HK0.out)
    have HB1 : Hid (Below w.heap.size w wy) := hide (by rw [hy]; exact below_drewN HB0.out m0)
    clear hy
    go_wp2_with fail
    have C := CS.out wy
    rcases R with _ | p
    · refine C.mono ?_
      rintro e w1 ⟨p, hp, rfl, h3⟩
      have HK2 := hide (HK1.out.below h3)
      have HB2 := hide (below_t5 HB1.out h3)
      obtain ⟨⟨r0, r1, r2⟩, z0, z1, z2⟩ := HK2.out.three
      clear h3
      go_wp2_with fail
      refine ro_fin (t := false) (st3 HK2.out (.int .i64 (p : Int)) (.slice none 0 0) (.slice none 0 0)) rfl rfl rfl ?_
      exact ⟨p, none, 0, 0, none, 0, 0, hp, rfl, st3_below HB2.out (Nat.le_refl _) _ _ _⟩
    · refine C.mono ?_
      rintro e w1 ⟨rfl, h3⟩
      have HK2 := hide (HK1.out.below h3)
      have HB2 := hide (below_t5 HB1.out h3)
      obtain ⟨⟨r0, r1, r2⟩, z0, z1, z2⟩ := HK2.out.three
      clear h3
      go_wp2_with fail
      refine ro_fin (t := true) (st3 HK2.out (.int .i64 (p : Int)) (.slice none 0 0) (.slice none 0 0)) rfl rfl rfl ?_
      exact ⟨none, 0, none, 0, rfl, Or.inl rfl, Or.inl rfl, st3_below HB2.out (Nat.le_refl _) _ _ _⟩
  · rw [if_neg h3]
    generalize n2 s.data.toList 0 = c at CU t1 h3 hn
    have c0 : (0 : Int) ≤ (c : Int) := by omega
    have c5 : (c : Int) ≤ 65535 := by omega
    by_cases hc : c < 1
    · have t2 : decide ((c : Int) < 1) = true := by simp; omega
      clear hl h0 h2 hn r0 r1 r2 z0 z1 z2 h3
      go_enter Tryd.func42, Tryd.ntmps42
      go_upto_region 1 with (fail)
      generalize w.alloc (.cells zs3 85) = V at HK0 HB0 hsz ⊢
      go_wp2_with fail
      refine (CU.out _).mono ?_
      rintro e wy ⟨rfl, m0, hy⟩
      have HK1 : Hid (Blk wy w.heap.size zs3 85) := hide (by rw [hy]; exact HK0.out)
      have HB1 : Hid (Below w.heap.size w wy) := hide (by rw [hy]; exact below_drewN HB0.out m0)
      clear hy
      obtain ⟨⟨r0, r1, r2⟩, z0, z1, z2⟩ := HK1.out.three
      go_wp2_with fail
      refine ro_fin (t := false) (st3 HK1.out (.int .i64 0) (.slice none 0 0) (.slice none 0 0)) rfl rfl rfl ?_
      exact ⟨0, none, 0, 0, none, 0, 0, by omega, rfl, st3_below HB1.out (Nat.le_refl _) _ _ _⟩
    · have t2 : decide ((c : Int) < 1) = false := by simp; omega
      have t3 : decide (32767 < (c : Int)) = true := by simp; omega
      clear hl h0 h2 hn r0 r1 r2 z0 z1 z2 h3
      go_enter Tryd.func42, Tryd.ntmps42
      go_upto_region 1 with (fail)
      generalize w.alloc (.cells zs3 85) = V at HK0 HB0 hsz ⊢
      go_wp2_with fail
      refine (CU.out _).mono ?_
      rintro e wy ⟨rfl, m0, hy⟩
      have HK1 : Hid (Blk wy w.heap.size zs3 85) := hide (by rw [hy]; exact HK0.out)
      have HB1 : Hid (Below w.heap.size w wy) := hide (by rw [hy]; exact below_drewN HB0.out m0)
      clear hy
      obtain ⟨⟨r0, r1, r2⟩, z0, z1, z2⟩ := HK1.out.three
      go_wp2_with fail
      refine ro_fin (t := false) (st3 HK1.out (.int .i64 0) (.slice none 0 0) (.slice none 0 0)) rfl rfl rfl ?_
      exact ⟨0, none, 0, 0, none, 0, 0, by omega, rfl, st3_below HB1.out (Nat.le_refl _) _ _ _⟩
def lck (n : Nat) : Nat := (4 - n % 4) % 4
def pdT (l : List UInt8) : List UInt8 := l ++ List.replicate (lck l.length) 0
theorem pdT_len (l : List UInt8) : (pdT l).length = l.length + lck l.length := by unfold pdT; simp
def jg (ss : List ByteArray) : List UInt8 := ss.flatMap fun s => pdT s.data.toList
end Go.Proofs.YthnpnkiomknkeaaDoor.G10
