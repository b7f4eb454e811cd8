/-
  What the law CmapSends calls and is handed: four numbers as bytes; groups that came in.
-/
import Derived.Test.YtkmmphpaaahajaaC11Op
import Derived.Test.YtkmmphpaaahajaaC11Ss
import Derived.Test.YtkmmphpaaahajaaC11Sq
import Derived.Deep.RegionLaw
import Derived.ChangeSlices
import Derived.ChangeArms
namespace Go.Proofs.Ytkmmphpaaahajaa
open Go.ChangeShapes Go.WideShapes Go.RowKit Go.Deep
set_option linter.unusedVariables false

theorem lfour_any (x : Int) (w : World) (h0 : 0 ≤ x) (h1 : x ≤ 2147483647) : Calls Try.prog 18 #[.int .i64 x] w fun e w' => e = .returned (.string ⟨(t4 x).toArray⟩) ∧ Below w.heap.size w w' := by
  have CV : (convert 43 9 (.slice (some ⟨w.heap.size, 0, none⟩) 4 4)).run Try.prog (w.alloc (.cells #[.int .u8 (x / 16777216 % 256), .int .u8 (x / 65536 % 256), .int .u8 (x / 256 % 256), .int .u8 (x % 256)] 5)) = .ok (.string ⟨(t4 x).toArray⟩) (w.alloc (.cells #[.int .u8 (x / 16777216 % 256), .int .u8 (x / 65536 % 256), .int .u8 (x / 256 % 256), .int .u8 (x % 256)] 5)) := by
    refine run_convert_bytes_back (P := Try.prog) _ 43 9 5 ⟨w.heap.size, 0, none⟩ 4 (t4 x) Try.underlying43 Try.underlying5 Try.underlying9 ?_
    intro j hj
    rw [Go.WideShapes.add_plain, Nat.zero_add, World.cell?_alloc_at _ _ _ _ rfl]
    have e1 := hiB_cell (x / 65536)
    have e2 := loB_cell (x / 65536)
    have e3 := hiB_cell x
    have e4 := loB_cell x
    have e0 : x / 65536 / 256 = x / 16777216 := by omega
    rw [e0] at e1
    unfold bcell at e1 e2 e3 e4
    match j, hj with
    | 0, _ => exact congrArg some e1.symm
    | 1, _ => exact congrArg some e2.symm
    | 2, _ => exact congrArg some e3.symm
    | 3, _ => exact congrArg some e4.symm
  have HB := hide ((Below.refl w.heap.size w).alloc (Nat.le_refl _) (.cells #[.int .u8 (x / 16777216 % 256), .int .u8 (x / 65536 % 256), .int .u8 (x / 256 % 256), .int .u8 (x % 256)] 5))
  generalize (⟨(t4 x).toArray⟩ : ByteArray) = T at CV ⊢
  have c1 : x / 16777216 % 256 = x / 16777216 := by omega
  rw [c1] at CV HB
  clear c1
  go_enter Try.func18, Try.ntmps18
  go_wp2_with fail
  go_ret
  exact ⟨rfl, HB.out⟩
theorem step_append_ex {P : Program} (w : World) {ops : Array Oper} {o : Oper} {a : Act} {K : Act → World → Prop} {Q : Exit → Act → World → Prop} {E : Prop} (hgd : o.guard = none) (s x : Operand) (t tn : TypeId)
    (ho : o.op = .call { callee := .builtin .append, args := #[s, x], argTypes := #[t, tn] }) (vs vx : Value) (hs : a.eval s = vs) (hx : a.eval x = vx)
    {G : Value → World → Prop} (hr : ∃ v' w', (Builtin.append_ #[t, tn] o.type #[vs, vx]).run P w = .ok v' w' ∧ G v' w') (h : ∀ v' w', G v' w' → K (a.put o.dst v') w') :
    if Region.wanted o (yielded ops a.tmps) = true then Oper.wp P o a w K Q else E := by
  rw [if_pos (by simp [Region.wanted, hgd])]
  obtain ⟨v', w', hr, hG⟩ := hr
  exact Lib.wp_append_run w s x t tn ho vs vx hs hx v' w' hr (h v' w' hG)
theorem cells_ints : Try.prog.cellsOf 40 = 1 := by kernel_rfl
theorem cells_grp : Try.prog.cellsOf 42 = 4 := by kernel_rfl
theorem len4 {α : Type} {l : List α} (h : l.length = 4) : ∃ a b c d, l = [a, b, c, d] := by
  match l, h with
  | [a, b, c, d], _ => exact ⟨a, b, c, d, rfl⟩
/- lists of ints that came in -/
structure LIn (w : World) (a : Option Addr) (n : Nat) (zs : List Int) : Prop where
  len : zs.length = n
  most : n ≤ 9223372036854775807
  lst : Lst w a zs
section
variable {H : Type} {enc : TypeId × Value → H} {W : World} {base : Nat} {sp : Nat → Bool} {held : Bool}
theorem ints_cell {n : Nat} {c : Value} {y : DataW H × List MemPlace} (hf : DataW.trod enc Try.prog W base sp held n 40 [c] = some y) : ∃ a k cap zs, c = .slice a k cap ∧ LIn W a k zs := by
  rcases open_ints Try.underlying40 Try.underlying3 (by kernel_rfl) hf with ⟨hcs, _⟩ | ⟨x, len', cap', zs, hcs, _, hl, hm, hzl, _, hc, hw⟩
  · simp at hcs
    exact ⟨none, 0, 0, [], hcs, rfl, by omega, Or.inl rfl⟩
  · simp at hcs
    have hlz : len' ≤ zs.length := by rw [hzl]; split <;> omega
    have htl : (zs.take len').length = len' := by rw [List.length_take]; omega
    refine ⟨some x, len', cap', zs.take len', hcs, htl, by unfold maxLen at hm; omega, ?_⟩
    by_cases hz : zs.length = 0
    · rw [List.eq_nil_of_length_eq_zero hz]; exact Or.inl (by simp)
    · obtain ⟨b, off, rfl, hc'⟩ := ints_at hc (by omega)
      have : Lst W (some ⟨b, off, none⟩) zs := Or.inr ⟨b, off, rfl, cell_ltC (hc' 0 (by omega)), hc'⟩
      exact this.take len'
variable {r : Reach} {b0 : Nat} {v : Value} {d : DataW H} {pl : List MemPlace}
set_option maxRecDepth 8000 in
theorem open_groups (hv : Value.okWide Try.prog W r b0 42 v) (h : DataW.Trod enc Try.prog W base sp held 42 v d pl) :
    ∃ a1 n1 k1 z1 a2 n2 k2 z2 a3 n3 k3 z3 c, v = .agg #[.slice a1 n1 k1, .slice a2 n2 k2, .slice a3 n3 k3, .int .i64 c] ∧ LIn W a1 n1 z1 ∧ LIn W a2 n2 z2 ∧ LIn W a3 n3 z3 ∧ R64 c := by
  simp only [Value.okWide, Try.underlying42] at hv
  obtain ⟨cs, rfl, _, _⟩ := hv
  obtain ⟨fuel, hf⟩ := h
  obtain ⟨xs, m, _, _, hlen, hxl, hfs⟩ := DataW.trod_struct Try.underlying42 hf
  rw [cells_grp] at hlen
  simp only [Value.cells] at hlen hfs
  obtain ⟨a0, a1, a2, a3, hcs⟩ := len4 hlen
  obtain ⟨x0, x1, x2, x3, rfl⟩ := len4 (show xs.length = 4 from hxl)
  rw [hcs] at hfs
  have g0 := hfs 0 _ rfl
  have g1 := hfs 1 _ rfl
  have g2 := hfs 2 _ rfl
  have g3 := hfs 3 _ rfl
  simp [cellsInt, cells_ints] at g0 g1 g2 g3
  obtain ⟨p1, n1, k1, z1, rfl, l1⟩ := ints_cell g0
  obtain ⟨p2, n2, k2, z2, rfl, l2⟩ := ints_cell g1
  obtain ⟨p3, n3, k3, z3, rfl, l3⟩ := ints_cell g2
  obtain ⟨c, rfl, hc⟩ := int_cellC g3
  refine ⟨p1, n1, k1, z1, p2, n2, k2, z2, p3, n3, k3, z3, c, ?_, l1, l2, l3, hc⟩
  cases cs
  simp only at hcs
  subst hcs
  rfl
end
end Go.Proofs.Ytkmmphpaaahajaa
