/-
  Rows of ints that are appended to, two of them beside one another; what the reference's Read refuses.
-/
import Derived.Test.YtehcpnbbgjinfaaM9OpT
import Derived.Deep.RegionLaw
namespace Go.Proofs.Ytehcpnbbgjinfaa
open Go.RowKit Go.Deep
set_option linter.unusedVariables false
set_option linter.unusedSimpArgs false

theorem step_append_ex {P : Program} (w : World) {ops : Array Oper} {o : Oper} {a : Act} {K : Act → World → Prop} {Q : Exit → Act → World → Prop} {E : Prop} (hgd : o.guard = none) (s x : Operand) (t tn : TypeId)
    (ho : o.op = .call { callee := .builtin .append, args := #[s, x], argTypes := #[t, tn] }) (vs vx : Value) (hs : a.eval s = vs) (hx : a.eval x = vx)
    {G : Value → World → Prop} (hr : ∃ v' w', (Builtin.append_ #[t, tn] o.type #[vs, vx]).run P w = .ok v' w' ∧ G v' w') (h : ∀ v' w', G v' w' → K (a.put o.dst v') w') :
    if Region.wanted o (yielded ops a.tmps) = true then Oper.wp P o a w K Q else E := by
  rw [if_pos (by simp [Region.wanted, hgd])]
  obtain ⟨v', w', hr, hG⟩ := hr
  exact Lib.wp_append_run w s x t tn ho vs vx hs hx v' w' hr (h v' w' hG)
theorem ints_one (l : List Int) : ∀ u ∈ l.map (Value.int .i64), u.oneCell' = true := fun u hu => by
  obtain ⟨_, _, rfl⟩ := List.mem_map.1 hu
  rfl
/- what stands beside a row that is appended to -/
theorem app_i1 {W : World} {B : Nat} {v : Value} {zs : List Int} (x : Int) (h : IRow W B v zs) (hB : B ≤ W.heap.size) (hl : zs.length ≤ 1000000) (H : Nat) (hH : W.heap.size = H) :
    ∃ v' w2, (Builtin.append_ #[26, 26] 26 #[v, .slice (some ⟨H, 0, none⟩) 1 1]).run Try.prog (W.alloc (.cells #[.int .i64 x] 3)) = .ok v' w2 ∧
      IRow w2 B v' (zs ++ [x]) ∧ (v'.ownBlock = v.ownBlock ∨ ∃ g, v'.ownBlock = some g ∧ W.heap.size ≤ g) ∧ W.heap.size ≤ w2.heap.size ∧ (∀ k, k < W.heap.size → v.ownBlock ≠ some k → w2.heap[k]? = W.heap[k]?) ∧ Below B W w2 := by
  obtain ⟨i0, hi, hz0, hz1, hz2⟩ := info_parts5 info_int
  subst hH
  obtain ⟨g, cap, w2, hr, ho, hg, hat, _⟩ := run_append_lies (P := Try.prog) (W.alloc (.cells #[.int .i64 x] 3)) 26 26 B 3 i0 _ 1 8 Try.underlying26 hi hz0 hz1 hz2 rfl (by decide) v zs.length (zs.map (Value.int .i64)) (World.ownsRow.alloc h _) ⟨W.heap.size, 0, none⟩ 1 1 [.int .i64 x] (by simp)
    (fun j u hu => by rw [Go.WideShapes.add_plain, Nat.zero_add, World.cell?_alloc_at _ _ _ _ rfl]; simpa using hu) (fun u hu => by simp at hu; subst hu; rfl) (by decide) (by unfold maxLen; omega) (by omega) (by simp; omega) (W.heap.size + 1) (by simp)
  refine ⟨_, w2, hr, ?_, ?_, ?_, ?_, ((Below.refl B W).alloc hB _).grown hg (by simp; omega) fun k hk' => (World.ownsRow.lt h k hk').1⟩
  · unfold IRow
    rw [List.map_append, List.length_append]
    exact ho
  · rcases hat with hat | hat
    · exact Or.inl (by rw [hat]; rfl)
    · exact Or.inr ⟨g, rfl, by omega⟩
  · have := hg.size; simp at this; omega
  · intro k hk hne
    rw [hg.block k (by simp; omega) (Ne.symm hne)]
    exact ((Below.refl W.heap.size W).alloc (Nat.le_refl _) (.cells #[.int .i64 x] 3)).block k hk
theorem IRow.kept {w w' : World} {B : Nat} {v : Value} {zs : List Int} (h : IRow w B v zs) (hk : ∀ k, v.ownBlock = some k → k < w.heap.size → w'.heap[k]? = w.heap[k]?) : IRow w' B v zs := by
  obtain ⟨h1, h2 | ⟨g, cap, cur, hv, hg, hh, hr⟩⟩ := h
  · exact ⟨h1, Or.inl h2⟩
  · have hlt : g < w.heap.size := by
      rcases Nat.lt_or_ge g w.heap.size with h | h
      · exact h
      · rw [Array.getElem?_eq_none h] at hh; simp at hh
    exact ⟨h1, Or.inr ⟨g, cap, cur, hv, hg, by rw [hk g (by rw [hv]; rfl) hlt]; exact hh, hr⟩⟩
theorem IRow.own {w : World} {B : Nat} {v : Value} {zs : List Int} (h : IRow w B v zs) : ∀ k, v.ownBlock = some k → B ≤ k ∧ k < w.heap.size := fun k hk => World.ownsRow.lt h k hk
end Go.Proofs.Ytehcpnbbgjinfaa
