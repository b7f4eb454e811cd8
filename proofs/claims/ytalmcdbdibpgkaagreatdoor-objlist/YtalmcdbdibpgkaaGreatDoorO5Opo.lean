/-
  A slice of objects that came in, and a slice of ints.
-/
import Derived.Test.YtalmcdbdibpgkaaGreatDoorBD
import Derived.Test.YtalmcdbdibpgkaaGreatDoorBA
namespace Go.Proofs.YtalmcdbdibpgkaaGreatDoor
open Go.ChangeShapes Go.WideShapes Go.RowKit Go.Deep

def ObjsIn (W : World) (T : BT Pay) (ia : Option Addr) (ic : Nat) : Prop :=
  (flen T ≤ ic ∧ flen T ≤ 1599289640401) ∧ ic ≤ 9223372036854775807 ∧ (flen T = 0 ∨ ∃ b' off', ia = some ⟨b', off', none⟩ ∧ b' < W.heap.size ∧ Rows W T b' off')
section
variable {H : Type} {enc : TypeId × Value → H} {W : World} {base : Nat} {sp : Nat → Bool} {held : Bool} {r : Reach} {b0 : Nat} {v : Value} {d : DataW H} {pl : List MemPlace}
set_option maxRecDepth 8000 in
theorem open_objs (hv : Value.okWide Tryz.prog W r b0 23 v) (h : DataW.Trod enc Tryz.prog W base sp held 23 v d pl) (hw : ∀ k ∈ d.weights Tryz.prog 23, k ≤ reachBytes) :
    ∃ ia ic T, v = .slice ia (flen T) ic ∧ ObjsIn W T ia ic := by
  obtain ⟨a, len, cap, rfl⟩ := okWide_slice Tryz.underlying23 hv
  obtain ⟨fuel, hf⟩ := h
  rcases DataW.trod_slice Tryz.underlying23 hf with ⟨hcs, _⟩ | ⟨a', len', cap', elems, rest, n', hn', hcs, hx, _, hl, hmx, hel, hei, _, _⟩
  · simp [Value.cells] at hcs
    obtain ⟨rfl, rfl, rfl⟩ := hcs
    exact ⟨none, 0, .nil, rfl, by simp [flen], by omega, Or.inl rfl⟩
  · simp [Value.cells] at hcs
    obtain ⟨rfl, rfl, rfl⟩ := hcs
    obtain ⟨hx, _⟩ := Prod.mk.inj hx
    have hwt := hw ((elems.length + rest.length) * 88) (by rw [hx]; simp only [DataW.weights, Tryz.underlying23, bytes_obj, List.length_map]; exact List.mem_cons_self)
    have hwa : ∀ k ∈ DataW.weightsAll Tryz.prog 25 (elems.map (·.1)), k ≤ reachBytes := fun k hk => hw k (by rw [hx]; simp only [DataW.weights, Tryz.underlying23]; exact List.mem_cons_of_mem _ (List.mem_append_left _ hk))
    rcases Nat.eq_zero_or_pos len with h0 | h0
    · subst h0
      exact ⟨some a', cap, .nil, rfl, by simp [flen], by unfold maxLen at hmx; exact hmx, Or.inl rfl⟩
    · obtain ⟨b, off, spot⟩ := a'
      have h00 := hei 0 h0
      rw [List.getElem?_eq_getElem (by omega), cells_obj] at h00
      obtain ⟨cs0, hc0, _⟩ := Option.bind_eq_some_iff.1 h00
      obtain ⟨_, hcl, hcell⟩ := World.cells?_some hc0
      obtain ⟨c0, c1, c2, c3, c4, c5, rfl⟩ := len6 hcl
      have hc00 := hcell 0 (by omega)
      simp only [List.getElem?_cons_zero] at hc00
      have hspot : spot = none := by simpa [Addr.add] using World.cell?_spot hc00
      subst hspot
      have hb : b < W.heap.size := by
        have := World.cells?_block hc0 (by omega)
        simpa [Addr.add] using this
      obtain ⟨T, hT, hR⟩ := open_rows n' (open_core n') elems b off (fun i hi => by
          have := hei i (by omega)
          rw [cells_obj, Go.WideShapes.add_plain] at this
          exact this) hwa
      refine ⟨some ⟨b, off, none⟩, cap, T, by rw [hT, hel], ⟨by rw [hT, hel]; exact hl, ?_⟩, by unfold maxLen at hmx; exact hmx, Or.inr ⟨b, off, rfl, hb, hR⟩⟩
      simp only [reachBytes] at hwt
      rw [hT]
      omega
def ZRow (w : World) (a : Option Addr) (len cap : Nat) (zs : List Int) : Prop := zs.length = len ∧ len ≤ cap ∧ cap ≤ 9223372036854775807 ∧ Lst w a zs ∧ ∀ n ∈ zs, -9223372036854775808 ≤ n ∧ n ≤ 9223372036854775807
theorem cell_lt3 {w : World} {b o : Nat} {v : Value} (h : w.cell? ⟨b, o, none⟩ = some v) : b < w.heap.size := by
  by_cases hb : b < w.heap.size
  · exact hb
  · unfold World.cell? at h
    rw [Array.getElem?_eq_none (by show w.heap.size ≤ b; omega)] at h
    simp at h
set_option maxRecDepth 8000 in
theorem open_zs (hv : Value.okWide Tryz.prog W r b0 41 v) (h : DataW.Trod enc Tryz.prog W base sp held 41 v d pl) :
    ∃ a len cap zs, v = .slice a len cap ∧ ZRow W a len cap zs := by
  obtain ⟨a, len, cap, rfl⟩ := okWide_slice Tryz.underlying41 hv
  obtain ⟨fuel, hf⟩ := h
  rcases open_ints Tryz.underlying41 Tryz.underlying3 (by kernel_rfl) hf with ⟨hcs, _⟩ | ⟨x, len', cap', zs, hcs, _, hl, hm, hzl, _, hc, hw⟩
  · simp [Value.cells] at hcs
    obtain ⟨rfl, rfl, rfl⟩ := hcs
    exact ⟨none, 0, 0, [], rfl, rfl, by omega, by omega, Or.inl rfl, by simp⟩
  · simp [Value.cells] at hcs
    obtain ⟨rfl, rfl, rfl⟩ := hcs
    have hlz : len ≤ zs.length := by rw [hzl]; split <;> omega
    refine ⟨some x, len, cap, zs.take len, rfl, by rw [List.length_take]; omega, hl, by unfold maxLen at hm; exact hm, ?_, fun n hn => bounds_i64 (hw n (List.mem_of_mem_take hn))⟩
    by_cases hz : zs.length = 0
    · rw [List.eq_nil_of_length_eq_zero hz]; exact Or.inl (by simp)
    · obtain ⟨b, off, rfl, hc'⟩ := ints_at hc (by omega)
      have : Lst W (some ⟨b, off, none⟩) zs := Or.inr ⟨b, off, rfl, cell_lt3 (hc' 0 (by omega)), hc'⟩
      exact this.take len
end
end Go.Proofs.YtalmcdbdibpgkaaGreatDoor
