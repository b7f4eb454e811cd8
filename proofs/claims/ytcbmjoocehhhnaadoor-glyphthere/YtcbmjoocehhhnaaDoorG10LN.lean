/-
  The law GlyphRenumbers, walked; a slice of ints opened and copied.
-/
import Derived.Test.YtcbmjoocehhhnaaDoorG10Nr
import Derived.Deep.AppendSrc
import Derived.ProofKit
import Derived.OpenShut
import Derived.ChangeSlices
import Derived.Deep.Slices
namespace Go.Proofs.YtcbmjoocehhhnaaDoor
open Go.RowKit Go.Deep
set_option linter.unusedVariables false
set_option linter.unusedSimpArgs false

theorem newCell9 (zs : List Int) (i : Nat) (h : i < zs.length) (rest : Array Value) : (((zs.map (Value.int .i64)).toArray ++ rest)[i]?) = some (.int .i64 (zs.getD i 0)) := by
  rw [Array.getElem?_append_left (by simpa using h)]
  simp [List.getElem?_eq_getElem h, List.getD_eq_getElem?_getD]
theorem app_copy (w : World) (a : Option Addr) (n c H : Nat) (zs : List Int) (hz : zs.length = n) (h : n ≤ 100000) (hL : Lst w a zs) (hH : w.heap.size = H) :
    ∃ g c' w', (Builtin.append_ #[38, 38] 38 #[.slice (some ⟨H, 0, none⟩) 0 0, .slice a n c]).run Tryd.prog (w.alloc (.cells #[] 3)) = .ok (.slice (some ⟨g, 0, none⟩) n c') w' ∧ Lst w' (some ⟨g, 0, none⟩) zs ∧ w.heap.size ≤ g ∧ Below w.heap.size w w' ∧ n ≤ c' ∧ c' ≤ 9223372036854775807 := by
  subst hH
  obtain ⟨i0, hi, hz0, hz1, hz2⟩ := info_parts5 info_int
  rcases Nat.eq_zero_or_pos n with h0 | h0
  · subst h0
    obtain rfl : zs = [] := List.eq_nil_of_length_eq_zero hz
    have hs : Src Tryd.prog i0.size 38 (.slice a 0 c) 0 [] (w.alloc (.cells #[] 3)) := by
      cases a with
      | none => exact Src.ofNil _ Tryd.underlying38 c
      | some x => exact Src.ofSlice _ Tryd.underlying38 x 0 c [] (by simp) (by simp) (by simp)
    have hr := run_append_room_src (P := Tryd.prog) (w.alloc (.cells #[] 3)) 38 38 38 3 i0 Tryd.underlying38 hi w.heap.size 0 0 0 _ 0 [] hs (by omega) (by simp) (by simp)
    refine ⟨w.heap.size, 0, w.alloc (.cells #[] 3), by simpa [World.setCells] using hr, Or.inl rfl, Nat.le_refl _, (Below.refl _ _).alloc (Nat.le_refl _) _, by omega, by omega⟩
  · rcases hL with hz' | ⟨b, off, rfl, hb, hcell⟩
    · rw [hz'] at hz; simp at hz; omega
    have hs : Src Tryd.prog i0.size 38 (.slice (some ⟨b, off, none⟩) n c) n (zs.map (Value.int .i64)) (w.alloc (.cells #[] 3)) := by
      refine Src.ofSlice (w.alloc (.cells #[] 3)) Tryd.underlying38 ⟨b, off, none⟩ n c _ (by rw [hz1]; simp [hz]) ?_ (ints_oneCell .i64 zs)
      intro j u hu
      have hj : j < zs.length := by
        have := List.getElem?_eq_some_iff.1 hu
        simpa using this.1
      rw [Go.WideShapes.add_plain, World.cell?_alloc_lt _ _ _ hb, hcell j hj]
      rw [List.getElem?_map, List.getElem?_eq_getElem hj] at hu
      simp at hu
      rw [← hu, List.getD_eq_getElem?_getD, List.getElem?_eq_getElem hj]
      rfl
    have hr := run_append_grow_src (P := Tryd.prog) (w.alloc (.cells #[] 3)) 38 38 38 3 i0 (.int .i64 0) Tryd.underlying38 hi hz0 (some ⟨w.heap.size, 0, none⟩) 0 0 [] (run_firstCells_some _ i0.size 0 _ 0 0 [] (by simp) (by simp)) _ n _ hs (by omega) (by omega)
      (by rw [hz2]; have := growslice_fits (need := 0 + n) (old := 0) (bytes := 8) (by omega) (by omega); exact this)
    simp only [Nat.zero_add, List.nil_append] at hr
    have hs2 : (w.alloc (.cells #[] 3)).heap.size = w.heap.size + 1 := by simp
    rw [hs2] at hr
    have b1 : Below w.heap.size w ((w.alloc (.cells #[] 3)).drew) := ((Below.refl _ _).alloc (Nat.le_refl _) _).drew
    have hsz : ((w.alloc (.cells #[] 3)).drew).heap.size = w.heap.size + 1 := by simp
    refine ⟨_, _, _, hr, Or.inr ⟨w.heap.size + 1, 0, rfl, by simp, fun i hi => ?_⟩, by omega, b1.alloc (by rw [hsz]; omega) _, grownCap_ge _ _ _ _, by have := grownCap_le_maxLen (w.alloc (.cells #[] 3)) n 0 3 (by simp only [maxLen]; omega); simpa only [maxLen] using this⟩
    rw [Nat.zero_add, World.cell?_alloc_at _ _ _ _ hsz.symm, newCell9 zs i hi]
def ZRow (w : World) (a : Option Addr) (len cap : Nat) (zs : List Int) : Prop := zs.length = len ∧ len ≤ cap ∧ cap ≤ 9223372036854775807 ∧ Lst w a zs ∧ ∀ n ∈ zs, -9223372036854775808 ≤ n ∧ n ≤ 9223372036854775807
theorem cell_lt3 {w : World} {b o : Nat} {v : Value} (h : w.cell? ⟨b, o, none⟩ = some v) : b < w.heap.size := by
  by_cases hb : b < w.heap.size
  · exact hb
  · unfold World.cell? at h
    rw [Array.getElem?_eq_none (by show w.heap.size ≤ b; omega)] at h
    simp at h
section
open Go.ChangeShapes Go.WideShapes
variable {H : Type} {enc : TypeId × Value → H} {W : World} {r : Reach} {base b0 : Nat} {sp : Nat → Bool} {held : Bool} {v : Value} {d : DataW H} {p : List MemPlace}
set_option maxRecDepth 100000 in
theorem open_zs (hv : Value.okWide Tryd.prog W r b0 38 v) (h : DataW.Trod enc Tryd.prog W base sp held 38 v d p) :
    ∃ a len cap zs, v = .slice a len cap ∧ ZRow W a len cap zs := by
  obtain ⟨a, len, cap, rfl⟩ := okWide_slice Tryd.underlying38 hv
  obtain ⟨fuel, hf⟩ := h
  rcases open_ints Tryd.underlying38 Tryd.underlying3 (by kernel_rfl) hf with ⟨hcs, _⟩ | ⟨x, len', cap', zs, hcs, _, hl, hm, hzl, _, hc, hw⟩
  · simp [Value.cells] at hcs
    obtain ⟨rfl, rfl, rfl⟩ := hcs
    exact ⟨none, 0, 0, [], rfl, rfl, by omega, by omega, Or.inl rfl, by simp⟩
  · simp [Value.cells] at hcs
    obtain ⟨rfl, rfl, rfl⟩ := hcs
    have hlz : len ≤ zs.length := by rw [hzl]; split <;> omega
    refine ⟨some x, len, cap, zs.take len, rfl, by rw [List.length_take]; omega, hl, by unfold maxLen at hm; exact hm, ?_, fun n hn => bounds_i64 (hw n (List.mem_of_mem_take hn))⟩
    by_cases hz : zs.length = 0
    · rw [List.eq_nil_of_length_eq_zero hz]; exact Or.inl (by simp)
    · obtain ⟨b, off, rfl, hc'⟩ := Go.ints_at hc (by omega)
      have : Lst W (some ⟨b, off, none⟩) zs := Or.inr ⟨b, off, rfl, cell_lt3 (hc' 0 (by omega)), hc'⟩
      exact this.take len
end

set_option maxRecDepth 8000 in
set_option maxHeartbeats 4000000 in
theorem renumbers_walk (s : ByteArray) (a : Option Addr) (n c : Nat) (zs : List Int) (w : World) (hm : s.size ≤ 9223372036854775807) (hZ : ZRow w a n c zs) :
    Calls Tryd.prog 6 #[.string s, .slice a n c] w fun e w' => e = .returned (.bool true) ∧ Below w.heap.size w w' := by
  obtain ⟨hz1, hz2, hz3, hz4, _⟩ := hZ
  have CWk := hide wakes_any
  by_cases h1 : 20000 < s.size
  · have h1' : (20000 : Int) < (s.size : Int) := by omega
    have h1d : decide ((20000 : Int) < (s.size : Int)) = true := by simpa using h1'
    clear h1
    go_enter Tryd.func6, Tryd.ntmps6
    go_wp2_with fail
    refine (CWk.out _).mono ?_
    rintro e w1 ⟨rfl, h1⟩
    have H1 := hide h1
    clear h1
    go_wp2_with fail
    go_ret
    exact ⟨rfl, H1.out⟩
  have h1' : ¬ (20000 : Int) < (s.size : Int) := by omega
  have h1d : decide ((20000 : Int) < (s.size : Int)) = false := by simpa using h1'
  by_cases h2 : 70000 < n
  · have h2' : (70000 : Int) < (n : Int) := by omega
    have h2d : decide ((70000 : Int) < (n : Int)) = true := by simpa using h2'
    clear h2
    go_enter Tryd.func6, Tryd.ntmps6
    go_wp2_with fail
    refine (CWk.out _).mono ?_
    rintro e w1 ⟨rfl, h1⟩
    have H1 := hide h1
    clear h1
    go_wp2_with fail
    go_ret
    exact ⟨rfl, H1.out⟩
  have h2' : ¬ (70000 : Int) < (n : Int) := by omega
  have h2d : decide ((70000 : Int) < (n : Int)) = false := by simpa using h2'
  obtain ⟨g, c', w1, hr, l1, hg1, b1, hcc⟩ := app_copy w a n c w.heap.size zs hz1 (by omega) hz4 rfl
  have HRU := hide hr
  have C1 := hide (renum_any s (some ⟨g, 0, none⟩) n c' zs w1 (by omega) hz1 (by omega) hcc.1 hcc.2 l1)
  have C2 := hide (fun w2 (hb : Below w1.heap.size w1 w2) => rrenum_any s a n c zs w2 (by omega) hz1 (by omega) ((hz4.below b1).below hb))
  have CS := hide (fun w2 (hb : Below w1.heap.size w1 w2) => ksame_any (some ⟨g, 0, none⟩) a n c' c zs w2 hz1 (by omega) (l1.below hb) ((hz4.below b1).below hb))
  have HB1 := hide b1
  generalize renV s.data.toList zs (shV s.data.toList) = R at C1 C2
  obtain ⟨T, er, hRn⟩ : ∃ (T : ByteArray) (er : Int), ∀ w e w', RnR w R e w' → e = .returned (.tuple #[.string T, .int .i64 er]) ∧ Below w.heap.size w w' := by
    cases R with
    | none => exact ⟨⟨#[]⟩, 100, fun w e w' h => h⟩
    | some m => exact ⟨⟨m.toArray⟩, 0, fun w e w' h => h⟩
  replace C1 := hide (C1.out.mono fun e w' h => hRn _ e w' h)
  replace C2 := hide (fun w2 (hb : Below w1.heap.size w1 w2) => (C2.out w2 hb).mono fun e w' h => hRn _ e w' h)
  have heq : (T.toList == T.toList) = true := by simp
  have heq2 : (er == er) = true := by simp
  clear hz1 hz2 hz3 hz4 hr l1 b1 hcc h1 h2 hg1
  go_enter Tryd.func6, Tryd.ntmps6
  go_wp2_with (at_builtin; refine Lib.wpList_append_run _ rfl _ _ _ _ rfl _ _ rfl rfl _ _ HRU.out ?_)
  refine C1.out.mono ?_
  rintro e w2 ⟨rfl, h3⟩
  have HX2 := hide h3
  clear h3
  go_wp2_with fail
  refine (C2.out _ HX2.out).mono ?_
  rintro e w3 ⟨rfl, h3⟩
  have HX3 := hide (below_t5 HX2.out h3)
  clear h3
  go_wp2_with fail
  refine (CS.out _ HX3.out).mono ?_
  rintro e w4 ⟨rfl, m4, h3⟩
  have HX4 : Hid (Below w1.heap.size w1 w4) := hide (by rw [h3]; exact below_drewN HX3.out m4)
  clear h3
  go_wp2_with fail
  refine (CWk.out _).mono ?_
  rintro e w5 ⟨rfl, h3⟩
  have HX5 := hide (below_t5 HX4.out h3)
  clear h3
  go_wp2_with fail
  go_ret
  exact ⟨rfl, below_t5 HB1.out HX5.out⟩
end Go.Proofs.YtcbmjoocehhhnaaDoor
