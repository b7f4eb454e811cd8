/-
  Two rows of ints in a struct that are appended to.
-/
import Derived.Test.YtehcpnbbgjinfaaM9RRa
namespace Go.Proofs.Ytehcpnbbgjinfaa
open Go.RowKit Go.Deep
set_option linter.unusedVariables false
set_option linter.unusedSimpArgs false

theorem step_append_run {P : Program} (w : World) {ops : Array Oper} {o : Oper} {a : Act} {K : Act → World → Prop} {Q : Exit → Act → World → Prop} {E : Prop} (hgd : o.guard = none) (s x : Operand) (t tn : TypeId)
    (ho : o.op = .call { callee := .builtin .append, args := #[s, x], argTypes := #[t, tn] }) (vs vx : Value) (hs : a.eval s = vs) (hx : a.eval x = vx)
    (v' : Value) (w' : World) (hr : (Builtin.append_ #[t, tn] o.type #[vs, vx]).run P w = .ok v' w') (h : K (a.put o.dst v') w') :
    if Region.wanted o (yielded ops a.tmps) = true then Oper.wp P o a w K Q else E := by
  rw [if_pos (by simp [Region.wanted, hgd])]
  exact Lib.wp_append_run w s x t tn ho vs vx hs hx v' w' hr h
theorem s2_let (s : ByteArray) (k : Nat) (h : k + 2 ≤ s.size) (hm : s.size ≤ 1073741824) : ∀ w, Calls Try.prog 29 #[.string s, .int .i64 (k : Int)] w fun e w' => e = .returned (.int .i64 (s2 s.data.toList k)) ∧ ∃ n, w' = w.drewN n := fun w => rs2_any s k k w rfl h hm
theorem app_i2 {W : World} {B k : Nat} {v : Value} {zs : List Int} (x : Int) (h : IRow W B v zs) (hz : zs.length = k) (hB : B ≤ W.heap.size) (hl : k ≤ 1000000) :
    ∃ g cap w2, (Builtin.append_ #[26, 26] 26 #[v, .slice (some ⟨W.heap.size, 0, none⟩) 1 1]).run Try.prog (W.alloc (.cells #[.int .i64 x] 3)) = .ok (.slice (some ⟨g, 0, none⟩) (k + 1) cap) w2 ∧
      IRow w2 B (.slice (some ⟨g, 0, none⟩) (k + 1) cap) (zs ++ [x]) ∧ (v.ownBlock = some g ∨ W.heap.size ≤ g) ∧ W.heap.size ≤ w2.heap.size ∧ (∀ j, j < W.heap.size → v.ownBlock ≠ some j → w2.heap[j]? = W.heap[j]?) ∧ Below B W w2 := by
  obtain ⟨i0, hi, hz0, hz1, hz2⟩ := info_parts5 info_int
  subst hz
  obtain ⟨g, cap, w2, hr, ho, hg, hat, _⟩ := run_append_lies (P := Try.prog) (W.alloc (.cells #[.int .i64 x] 3)) 26 26 B 3 i0 _ 1 8 Try.underlying26 hi hz0 hz1 hz2 rfl (by decide) v zs.length (zs.map (Value.int .i64)) (World.ownsRow.alloc h _) ⟨W.heap.size, 0, none⟩ 1 1 [.int .i64 x] (by simp)
    (fun j u hu => by rw [Go.WideShapes.add_plain, Nat.zero_add, World.cell?_alloc_at _ _ _ _ rfl]; simpa using hu) (fun u hu => by simp at hu; subst hu; rfl) (by decide) (by unfold maxLen; omega) (by omega) (by simp; omega) (W.heap.size + 1) (by simp)
  refine ⟨g, cap, w2, hr, ?_, ?_, ?_, ?_, ((Below.refl B W).alloc hB _).grown hg (by simp; omega) fun k hk' => (World.ownsRow.lt h k hk').1⟩
  · unfold IRow
    rw [List.map_append, List.length_append]
    exact ho
  · rcases hat with hat | hat
    · exact Or.inl hat
    · exact Or.inr (by omega)
  · have := hg.size; simp at this; omega
  · intro j hj hne
    rw [hg.block j (by simp; omega) (Ne.symm hne)]
    exact ((Below.refl W.heap.size W).alloc (Nat.le_refl _) (.cells #[.int .i64 x] 3)).block j hj
structure Lp (w : World) (A1 A2 : List Int) (r y B : Nat) (YF : Value → Value → Array Value) (k1 k2 : Nat) (v1 v2 : Value) (wr : World) : Prop where
  kr : Blk wr r zeroC 28
  ky : Blk wr y (YF v1 v2) 28
  r1 : IRow wr B v1 (A1.take k1)
  r2 : IRow wr B v2 (A2.take k2)
  dj : ∀ g, v1.ownBlock = some g → v2.ownBlock ≠ some g
  bl : Below w.heap.size w wr
  yb : y < B
  rb : r < B
  ry : r ≠ y
  bb : B ≤ wr.heap.size
  wb : w.heap.size ≤ B
  rw : w.heap.size ≤ r
  yw : w.heap.size ≤ y
theorem Lp.same {w : World} {A1 A2 : List Int} {r y B : Nat} {YF : Value → Value → Array Value} {k1 k2 : Nat} {v1 v2 : Value} {wr u : World} (L : Lp w A1 A2 r y B YF k1 k2 v1 v2 wr) (hb : Below wr.heap.size wr u) : Lp w A1 A2 r y B YF k1 k2 v1 v2 u :=
  ⟨L.kr.below hb, L.ky.below hb, L.r1.kept fun g _ hl => hb.block g hl, L.r2.kept fun g _ hl => hb.block g hl, L.dj, below_t5 L.bl hb, L.yb, L.rb, L.ry, Nat.le_trans L.bb hb.size, L.wb, L.rw, L.yw⟩
theorem irow_set {w : World} {B y o : Nat} {v : Value} {zs : List Int} (h : IRow w B v zs) (hy : y < B) (x : Value) : IRow (w.setCell ⟨y, o, none⟩ x) B v zs :=
  h.kept fun g hg _ => Below.heap_setCell _ _ _ _ (by have := (h.own g hg).1; dsimp only; omega)
theorem Lp.app1 {w : World} {A1 A2 : List Int} {r y B : Nat} {YF : Value → Value → Array Value} {k1 k2 : Nat} {v1 v2 : Value} {W : World} (L : Lp w A1 A2 r y B YF k1 k2 v1 v2 W) (X : Int) (hk : k1 < A1.length) (hN : A1.length ≤ 5000) (hX : A1.getD k1 0 = X)
    (hY : ∀ a b c, (YF a b).setIfInBounds 9 c = YF c b) :
    ∃ g cap w', (Builtin.append_ #[26, 26] 26 #[v1, .slice (some ⟨W.heap.size, 0, none⟩) 1 1]).run Try.prog (W.alloc (.cells #[.int .i64 X] 3)) = .ok (.slice (some ⟨g, 0, none⟩) (k1 + 1) cap) w' ∧
      Blk w' y (YF v1 v2) 28 ∧ Lp w A1 A2 r y B YF (k1 + 1) k2 (.slice (some ⟨g, 0, none⟩) (k1 + 1) cap) v2 (w'.setCell ⟨y, 9, none⟩ (.slice (some ⟨g, 0, none⟩) (k1 + 1) cap)) := by
  have hl : (A1.take k1).length = k1 := by rw [List.length_take]; omega
  obtain ⟨g, cap, w', hr, hrow, hown, hsz, hfar, hbel⟩ := app_i2 X L.r1 hl L.bb (by omega)
  have ky' : Blk w' y (YF v1 v2) 28 := by
    have hlt := L.ky.lt
    unfold Blk
    rw [hfar y hlt (fun e => by have := L.r1.own y e; have := L.yb; omega)]
    exact L.ky
  have kr' : Blk w' r zeroC 28 := by
    have hlt := L.kr.lt
    unfold Blk
    rw [hfar r hlt (fun e => by have := L.r1.own r e; have := L.rb; omega)]
    exact L.kr
  have e : A1.take (k1 + 1) = A1.take k1 ++ [X] := by
    rw [List.take_succ_eq_append_getElem hk, ← hX, List.getD_eq_getElem?_getD, List.getElem?_eq_getElem hk]; rfl
  have hset : But y w' (w'.setCell ⟨y, 9, none⟩ (.slice (some ⟨g, 0, none⟩) (k1 + 1) cap)) := But.setCell _ _ _ _
  have hbw : Below w.heap.size w w' := L.bl.trans (hbel.mono L.wb)
  refine ⟨g, cap, w', hr, ky', ⟨hset.blk kr' L.ry, ?_, ?_, ?_, ?_, hset.below hbw L.yw, L.yb, L.rb, L.ry, by simp [World.setCell]; exact Nat.le_trans L.bb hsz, L.wb, L.rw, L.yw⟩⟩
  · have := Blk.set ky' 9 (.slice (some ⟨g, 0, none⟩) (k1 + 1) cap)
    rw [hY] at this
    exact this
  · rw [e]; exact irow_set hrow L.yb _
  · exact irow_set (L.r2.kept fun j hj hlt => hfar j hlt (fun e' => L.dj j e' hj)) L.yb _
  · intro j hj hj2
    have hjg : g = j := by simpa [Value.ownBlock] using hj
    subst hjg
    rcases hown with h1 | h1
    · exact L.dj g h1 hj2
    · have := (L.r2.own g hj2).2; omega
theorem Lp.app2 {w : World} {A1 A2 : List Int} {r y B : Nat} {YF : Value → Value → Array Value} {k1 k2 : Nat} {v1 v2 : Value} {W : World} (L : Lp w A1 A2 r y B YF k1 k2 v1 v2 W) (X : Int) (hk : k2 < A2.length) (hN : A2.length ≤ 5000) (hX : A2.getD k2 0 = X)
    (hY : ∀ a b c, (YF a b).setIfInBounds 10 c = YF a c) :
    ∃ g cap w', (Builtin.append_ #[26, 26] 26 #[v2, .slice (some ⟨W.heap.size, 0, none⟩) 1 1]).run Try.prog (W.alloc (.cells #[.int .i64 X] 3)) = .ok (.slice (some ⟨g, 0, none⟩) (k2 + 1) cap) w' ∧
      Blk w' y (YF v1 v2) 28 ∧ Lp w A1 A2 r y B YF k1 (k2 + 1) v1 (.slice (some ⟨g, 0, none⟩) (k2 + 1) cap) (w'.setCell ⟨y, 10, none⟩ (.slice (some ⟨g, 0, none⟩) (k2 + 1) cap)) := by
  have hl : (A2.take k2).length = k2 := by rw [List.length_take]; omega
  obtain ⟨g, cap, w', hr, hrow, hown, hsz, hfar, hbel⟩ := app_i2 X L.r2 hl L.bb (by omega)
  have ky' : Blk w' y (YF v1 v2) 28 := by
    have hlt := L.ky.lt
    unfold Blk
    rw [hfar y hlt (fun e => by have := L.r2.own y e; have := L.yb; omega)]
    exact L.ky
  have kr' : Blk w' r zeroC 28 := by
    have hlt := L.kr.lt
    unfold Blk
    rw [hfar r hlt (fun e => by have := L.r2.own r e; have := L.rb; omega)]
    exact L.kr
  have e : A2.take (k2 + 1) = A2.take k2 ++ [X] := by
    rw [List.take_succ_eq_append_getElem hk, ← hX, List.getD_eq_getElem?_getD, List.getElem?_eq_getElem hk]; rfl
  have hset : But y w' (w'.setCell ⟨y, 10, none⟩ (.slice (some ⟨g, 0, none⟩) (k2 + 1) cap)) := But.setCell _ _ _ _
  have hbw : Below w.heap.size w w' := L.bl.trans (hbel.mono L.wb)
  refine ⟨g, cap, w', hr, ky', ⟨hset.blk kr' L.ry, ?_, ?_, ?_, ?_, hset.below hbw L.yw, L.yb, L.rb, L.ry, by simp [World.setCell]; exact Nat.le_trans L.bb hsz, L.wb, L.rw, L.yw⟩⟩
  · have := Blk.set ky' 10 (.slice (some ⟨g, 0, none⟩) (k2 + 1) cap)
    rw [hY] at this
    exact this
  · exact irow_set (L.r1.kept fun j hj hlt => hfar j hlt (fun e' => L.dj j hj e')) L.yb _
  · rw [e]; exact irow_set hrow L.yb _
  · intro j hj hj2
    have hjg : g = j := by simpa [Value.ownBlock] using hj2
    subst hjg
    rcases hown with h1 | h1
    · exact L.dj g hj h1
    · have := (L.r1.own g hj).2; omega
end Go.Proofs.Ytehcpnbbgjinfaa
