/-
  append to an empty slice of strings: append([]string{}, l...), append([]string(nil), l...).
-/
import Derived.Test.YtcgoklacjniemaaGreatDoorO5Sub
import Derived.Deep.AppendSrc
import Derived.Lib.AppendZeros
import Derived.OwnWalk
import Derived.Deep.AppendLies
namespace Go.Proofs.YtcgoklacjniemaaGreatDoor
open Go.RowKit Go.Deep

theorem strs_one (ss : List ByteArray) : ∀ u ∈ ss.map Value.string, u.oneCell' = true := fun u hu => by
  obtain ⟨_, _, rfl⟩ := List.mem_map.1 hu
  rfl
theorem info_parts5 {t : TypeId} {z : Value} {a b : Nat} (h : (Tryz.prog.info? t).map (fun i => (i.zero, i.size, i.bytes)) = some (some z, a, b)) : ∃ i, Tryz.prog.info? t = some i ∧ i.zero = some z ∧ i.size = a ∧ i.bytes = b := by
  cases hi : Tryz.prog.info? t with
  | none => rw [hi] at h; cases h
  | some i => rw [hi] at h; simp at h; exact ⟨i, rfl, h.1, h.2.1, h.2.2⟩
theorem app_keys (base ka : Option Addr) (ss : List ByteArray) (kc : Nat) (W : World) (hS : Strs W ka ss) (hn : ss.length ≤ 8796093022208) (hba : base = none ∨ ∃ H, base = some ⟨H, 0, none⟩) :
    ∃ a c W', (Builtin.append_ #[22, 22] 22 #[.slice base 0 0, .slice ka ss.length kc]).run Tryz.prog W = .ok (.slice a ss.length c) W' ∧
      (Strs (fresh (W.heap.size) W') a ss ∧ (ss.length ≤ c ∧ ss.length ≤ 8796093022208) ∧ c ≤ 9223372036854775807) ∧ Below W.heap.size W W' := by
  obtain ⟨i0, hi, hz0, hz1, hz2⟩ := info_parts5 info_str
  by_cases h0 : ss = []
  · subst h0
    have hs : Src Tryz.prog i0.size 22 (.slice ka 0 kc) 0 [] W := by
      cases ka with
      | none => exact Src.ofNil W Tryz.underlying22 kc
      | some a => exact Src.ofSlice W Tryz.underlying22 a 0 kc [] (by simp) (by simp) (by simp)
    rcases hba with rfl | ⟨H, rfl⟩
    · refine ⟨none, 0, W, ?_, ⟨Or.inl rfl, ⟨Nat.le_refl _, by simp⟩, by omega⟩, Below.refl _ _⟩
      simp [Builtin.append_, run_underlying Tryz.underlying22, sizeOf, typeInfo, hi, hs.len, hs.cells]
    · refine ⟨some ⟨H, 0, none⟩, 0, W, ?_, ⟨Or.inl rfl, ⟨Nat.le_refl _, by simp⟩, by omega⟩, Below.refl _ _⟩
      have hr := run_append_room_src (P := Tryz.prog) W 22 22 22 9 i0 Tryz.underlying22 hi H 0 0 0 _ 0 [] hs (by omega) (by simp) (by simp)
      simpa [World.setCells] using hr
  · have hpos : 0 < ss.length := List.length_pos_iff.2 h0
    rcases hS with hS | ⟨b, off, rfl, hb, hc⟩
    · exact absurd hS h0
    have hs : Src Tryz.prog i0.size 22 (.slice (some ⟨b, off, none⟩) ss.length kc) ss.length (ss.map Value.string) W := by
      refine Src.ofSlice W Tryz.underlying22 ⟨b, off, none⟩ ss.length kc _ (by rw [hz1]; simp) ?_ (strs_one ss)
      intro j u hu
      have hj : j < ss.length := by
        have := List.getElem?_eq_some_iff.1 hu
        simpa using this.1
      rw [Go.WideShapes.add_plain, hc j hj]
      rw [List.getElem?_map, List.getElem?_eq_getElem hj] at hu
      simp at hu
      rw [← hu, List.getD_eq_getElem?_getD, List.getElem?_eq_getElem hj]
      rfl
    have hold : (Builtin.firstCells i0.size 0 (.slice base 0 0)).run Tryz.prog W.drew = .ok ([] : List Value).toArray W.drew := by
      rcases hba with rfl | ⟨H, rfl⟩
      · exact run_firstCells_none _ i0.size 0 0 0
      · exact run_firstCells_some _ i0.size 0 _ 0 0 [] (by simp) (by simp)
    have hr := run_append_grow_src (P := Tryz.prog) W 22 22 22 9 i0 (.string ByteArray.empty) Tryz.underlying22 hi hz0 base 0 0 [] hold _ ss.length _ hs (by omega) (by omega)
      (by rw [hz2]; have := growslice_fits (need := 0 + ss.length) (old := 0) (bytes := 16) (by omega) (by omega); exact this)
    simp only [Nat.zero_add, List.nil_append] at hr
    refine ⟨_, _, _, hr, ⟨Or.inr ⟨W.heap.size, 0, rfl, by rw [fresh, only_size]; simp, fun i hi => sub_only (S := fun k => W.heap.size ≤ k) (Nat.le_refl _) ?_⟩, ⟨grownCap_ge _ _ _ _, hn⟩, ?_⟩, (below_drewN' W 1).alloc (by simp) _⟩
    · rw [Nat.zero_add, World.cell?_alloc_at _ _ _ _ (by simp), Array.getElem?_append_left (by simpa using hi)]
      simp [List.getElem?_eq_getElem hi, List.getD_eq_getElem?_getD]
    · have := grownCap_le_maxLen W ss.length 0 9 (by simp only [maxLen]; omega)
      simpa only [maxLen] using this
theorem ownsRow_kept {w w' : World} {B : Nat} {e : TypeId} {size n : Nat} {v : Value} {xs : List Value} (h : w.ownsRow B e size v n xs) (hk : ∀ k, B ≤ k → k < w.heap.size → w'.heap[k]? = w.heap[k]?) : w'.ownsRow B e size v n xs := by
  obtain ⟨h1, h2 | ⟨g, cap, cur, hv, hg, hh, hr⟩⟩ := h
  · exact ⟨h1, Or.inl h2⟩
  · have hlt : g < w.heap.size := by
      rcases Nat.lt_or_ge g w.heap.size with h | h
      · exact h
      · rw [Array.getElem?_eq_none h] at hh; simp at hh
    exact ⟨h1, Or.inr ⟨g, cap, cur, hv, hg, by rw [hk g hg hlt]; exact hh, hr⟩⟩
theorem part_sub {w1 w2 : World} {B g n cap : Nat} {v : Value} (hg : w1.grownBy w2 v.ownBlock) (hat : v.ownBlock = some g ∨ w1.heap.size ≤ g) : Sub (only (Part B v) w1) (only (Part B (.slice (some ⟨g, 0, none⟩) n cap)) w2) := by
  refine only_sub hg.size fun k h1 h2 => ⟨⟨h1.1, ?_⟩, hg.block k h2 (fun e => h1.2 e.symm)⟩
  intro e
  have e : g = k := by simpa [Value.ownBlock] using e
  rcases hat with ha | ha
  · exact h1.2 (by rw [ha, e])
  · omega
theorem step_append_run {P : Program} (w : World) {ops : Array Oper} {o : Oper} {a : Act} {K : Act → World → Prop} {Q : Exit → Act → World → Prop} {E : Prop} (hgd : o.guard = none) (s x : Operand) (t tn : TypeId)
    (ho : o.op = .call { callee := .builtin .append, args := #[s, x], argTypes := #[t, tn] }) (vs vx : Value) (hs : a.eval s = vs) (hx : a.eval x = vx)
    (v' : Value) (w' : World) (hr : (Builtin.append_ #[t, tn] o.type #[vs, vx]).run P w = .ok v' w') (h : K (a.put o.dst v') w') :
    if Region.wanted o (yielded ops a.tmps) = true then Oper.wp P o a w K Q else E := by
  rw [if_pos (by simp [Region.wanted, hgd])]
  exact Lib.wp_append_run w s x t tn ho vs vx hs hx v' w' hr h
/- one more object at the end of a row -/
theorem app_obj {W W1 : World} {B : Nat} {v : Value} {l : List Ent} (x : Ent) (h : ORow W B v l) (hs : W.heap.size ≤ W1.heap.size) (hk : ∀ k, B ≤ k → k < W.heap.size → W1.heap[k]? = W.heap[k]?) (hB : B ≤ W.heap.size) (hx : x.lies (fresh W.heap.size W1)) (hn : l.length + 1 ≤ 1599289640401) (H : Nat) (hH : W1.heap.size = H) :
    ∃ g cap w2, (Builtin.append_ #[23, 23] 23 #[v, .slice (some ⟨H, 0, none⟩) 1 1]).run Tryz.prog (W1.alloc (.cells x.cells.toArray 25)) = .ok (.slice (some ⟨g, 0, none⟩) (l.length + 1) cap) w2 ∧
      ORow w2 B (.slice (some ⟨g, 0, none⟩) (l.length + 1) cap) (l ++ [x]) ∧ Below B W1 w2 ∧ Sub (only (Part B v) W1) (only (Part B (.slice (some ⟨g, 0, none⟩) (l.length + 1) cap)) w2) := by
  obtain ⟨i0, hi, hz0, hz1, hz2⟩ := info_parts5 info_obj
  have hown : (W1.alloc (.cells x.cells.toArray 25)).ownsRow B 25 6 v l.length (ecells l) := (ownsRow_kept h.1 hk).alloc _
  subst hH
  obtain ⟨g, cap, w2, hr, ho, hg, hat, hlt⟩ := run_append_lies (P := Tryz.prog) (W1.alloc (.cells x.cells.toArray 25)) 23 23 B 25 i0 _ 6 88 Tryz.underlying23 hi hz0 hz1 hz2 rfl (by decide) v l.length (ecells l) hown ⟨W1.heap.size, 0, none⟩ 1 1 x.cells rfl
    (fun j u hu => by rw [Go.WideShapes.add_plain, Nat.zero_add, World.cell?_alloc_at _ _ _ _ rfl]; simpa using hu) (fun u hu => by simp [Ent.cells] at hu; rcases hu with rfl | rfl | rfl | rfl | rfl | rfl <;> rfl) (by decide) (by unfold maxLen; omega) (by omega) (by simp; omega) (W1.heap.size + 1) (by simp)
  refine ⟨g, cap, w2, hr, ?_, ?_, ?_⟩
  · refine h.appended (w1 := W1.alloc (.cells x.cells.toArray 25)) (by simp; omega) hB (fun k h1 h2 => by rw [Below.heap_alloc _ _ _ (by omega)]; exact hk k h1 h2) (OIn.sub (fresh_le (Nat.le_refl _) ((Below.refl _ _).alloc (Nat.le_refl _) _)) hx) ho hg ?_
    rcases hat with ha | ha
    · exact Or.inl ha
    · exact Or.inr (by rw [ha]; simp)
  · exact ((Below.refl B W1).alloc (by omega) _).grown hg (by simp; omega) fun k hk' => (World.ownsRow.lt h.1 k hk').1
  · refine Sub.trans (only_sub (w' := W1.alloc (.cells x.cells.toArray 25)) (by simp) fun k h1 h2 => ⟨h1, Below.heap_alloc _ _ _ h2⟩) (part_sub hg ?_)
    rcases hat with ha | ha
    · exact Or.inl ha
    · exact Or.inr (by rw [ha]; simp)
end Go.Proofs.YtcgoklacjniemaaGreatDoor
