/-
  Joined: P6Wl, P6Wm, P6My.
-/
import Derived.Test.YtlnkddmpcicejaaDoorQA
import Derived.Deep.RegionLaw
import Derived.Deep.DeepAppendWide
import Derived.Deep.CutRange
import Derived.Test.YtlnkddmpcicejaaDoorBC
/-
  What the landed withLength answers: a stream's dictionary with the pair Length behind all others.
-/
namespace Go.Proofs.YtlnkddmpcicejaaDoor
open Go.RowKit Go.Deep
set_option linter.unusedVariables false

abbrev lenS : ByteArray := ⟨#[76, 101, 110, 103, 116, 104]⟩
abbrev lenP (n : Nat) : Pay := ⟨2, false, n, ⟨#[]⟩, []⟩
def snocF : BT Pay → Pay → BT Pay
  | .nil, q => .node 0 0 q .nil .nil
  | .node b o p T N, q => .node b o p T (snocF N q)
theorem snocF_len (q : Pay) : ∀ T, flen (snocF T q) = flen T + 1
  | .nil => rfl
  | .node _ _ _ _ N => by rw [snocF, flen, flen, snocF_len q N]
theorem forest_snoc (q : Pay) : ∀ l : List Ent, forest (l ++ [⟨0, 0, q, .nil, none, 0, none, 0⟩]) = snocF (forest l) q
  | [] => rfl
  | x :: l => by rw [List.cons_append, forest, forest, snocF, forest_snoc q l]
abbrev addK (p : Pay) : Pay := ⟨p.kind, p.flag, p.num, p.text, p.keys ++ [lenS]⟩
/- a forest that lies, as entries -/
theorem rows_ents {w : World} : ∀ (T : BT Pay) (b off : Nat), Rows w T b off → ∃ l : List Ent, forest l = T ∧ (∀ j, j < l.length * 6 → w.cell? ⟨b, off + j, none⟩ = (ecells l)[j]?) ∧ ∀ x ∈ l, x.lies w
  | .nil, b, off, _ => ⟨[], rfl, fun j hj => by simp at hj, by simp⟩
  | .node b0 o0 p T N, b, off, h => by
    obtain ⟨⟨ka, kc, ia, ic, h6, hin⟩, hN⟩ := rows_node.1 h
    obtain ⟨l, hl, hc, hx⟩ := rows_ents N b (off + 6) hN
    refine ⟨⟨b0, o0, p, T, ka, kc, ia, ic⟩ :: l, by rw [forest, hl], fun j hj => ?_, fun x hm => ?_⟩
    · rw [show ecells (⟨b0, o0, p, T, ka, kc, ia, ic⟩ :: l) = (Ent.cells ⟨b0, o0, p, T, ka, kc, ia, ic⟩) ++ ecells l by simp [ecells]]
      by_cases h6' : j < 6
      · rw [List.getElem?_append_left (by simpa [Ent.cells] using h6')]
        obtain ⟨c0, c1, c2, c3, c4, c5⟩ := h6
        rcases (show j = 0 ∨ j = 1 ∨ j = 2 ∨ j = 3 ∨ j = 4 ∨ j = 5 by omega) with rfl | rfl | rfl | rfl | rfl | rfl
        · exact c0
        · exact c1
        · exact c2
        · exact c3
        · exact c4
        · exact c5
      · rw [List.getElem?_append_right (by simp [Ent.cells]; omega)]
        have := hc (j - 6) (by simp at hj; omega)
        rw [show off + 6 + (j - 6) = off + j by omega] at this
        rw [this]
        simp [Ent.cells]
    · rcases List.mem_cons.1 hm with rfl | hm
      · exact hin
      · exact hx x hm
/- a key more, where there is no room -/
theorem app_key1 (ka : Option Addr) (ss : List ByteArray) (s : ByteArray) (W : World) (hS : Strs W ka ss) (hn : ss.length ≤ 8796093022208) (H : Nat) (hH : W.heap.size = H) :
    ∃ a c W', (Builtin.append_ #[36, 36] 36 #[.slice ka ss.length ss.length, .slice (some ⟨H, 0, none⟩) 1 1]).run Tryd.prog (W.alloc (.cells #[.string s] 9)) = .ok (.slice a (ss.length + 1) c) W' ∧
      (Strs (fresh W.heap.size W') a (ss ++ [s]) ∧ ss.length + 1 ≤ c ∧ c ≤ 9223372036854775807) ∧ Below W.heap.size W W' := by
  obtain ⟨i0, hi, hz0, hz1, hz2⟩ := info_parts5 info_str
  subst hH
  have hs : Src Tryd.prog i0.size 36 (.slice (some ⟨W.heap.size, 0, none⟩) 1 1) 1 [.string s] (W.alloc (.cells #[.string s] 9)) := by
    refine Src.ofSlice _ Tryd.underlying36 ⟨W.heap.size, 0, none⟩ 1 1 _ (by rw [hz1]; rfl) ?_ (by intro u hu; simp at hu; subst hu; rfl)
    intro j u hu
    rw [Go.WideShapes.add_plain, Nat.zero_add, World.cell?_alloc_at _ _ _ _ rfl]
    simpa using hu
  have hold : (Builtin.firstCells i0.size ss.length (.slice ka ss.length ss.length)).run Tryd.prog (W.alloc (.cells #[.string s] 9)).drew = .ok (ss.map Value.string).toArray (W.alloc (.cells #[.string s] 9)).drew := by
    rcases hS with h | ⟨b, off, rfl, hb, hc⟩
    · subst h
      cases ka with
      | none => exact run_firstCells_none _ i0.size 0 0 0
      | some a => exact run_firstCells_some _ i0.size 0 _ 0 0 [] (by simp) (by simp)
    · refine run_firstCells_some _ i0.size ss.length _ _ _ _ (by rw [hz1]; simp) ?_
      intro j u hu
      have hj : j < ss.length := by
        have := List.getElem?_eq_some_iff.1 hu
        simpa using this.1
      have hcc := (((Below.refl W.heap.size W).alloc (Nat.le_refl _) (.cells #[.string s] 9)).cell (p := ⟨b, off + j, none⟩) hb).trans (hc j hj)
      rw [Go.WideShapes.add_plain]
      refine Eq.trans hcc ?_
      rw [List.getElem?_map, List.getElem?_eq_getElem hj] at hu
      simp at hu
      rw [← hu, List.getD_eq_getElem?_getD, List.getElem?_eq_getElem hj]
      rfl
  have hr := run_append_grow_src (P := Tryd.prog) (W.alloc (.cells #[.string s] 9)) 36 36 36 9 i0 (.string ByteArray.empty) Tryd.underlying36 hi hz0 ka ss.length ss.length (ss.map Value.string) hold _ 1 _ hs (by omega) (by omega)
      (by rw [hz2]; exact growslice_fits_wide (by omega) (by omega))
  refine ⟨_, _, _, hr, ⟨?_, grownCap_ge _ _ _ _, ?_⟩, ?_⟩
  · refine Or.inr ⟨W.heap.size + 1, 0, by simp, by rw [fresh, only_size]; simp, fun i hi' => sub_only (S := fun k => W.heap.size ≤ k) (by simp) ⟨_, _, (by
      have := Array.getElem?_push_size (xs := (W.alloc (.cells #[.string s] 9)).heap) (x := (Obj.cells ((ss.map Value.string ++ [Value.string s]).toArray ++ Builtin.zeroCells (Value.string ByteArray.empty).cells (grownCap (W.alloc (.cells #[.string s] 9)) (ss.length + 1) ss.length 9 - (ss.length + 1))) 9))
      rwa [show (W.alloc (.cells #[.string s] 9)).heap.size = W.heap.size + 1 by simp] at this)⟩ ?_⟩
    simp only [List.length_append, List.length_cons, List.length_nil] at hi'
    rw [Nat.zero_add, World.cell?_alloc_at _ _ _ _ (by simp), Array.getElem?_append_left (by simp; omega)]
    rw [List.getElem?_toArray, List.getD_eq_getElem?_getD]
    rw [show (List.map Value.string ss ++ [Value.string s]) = (ss ++ [s]).map Value.string by simp, List.getElem?_map, List.getElem?_eq_getElem (by simp; omega)]
    rfl
  · have := grownCap_le_maxLen (W.alloc (.cells #[.string s] 9)) (ss.length + 1) ss.length 9 (by simp only [maxLen]; omega)
    simpa only [maxLen] using this
  · exact (below_drewN (((Below.refl W.heap.size W).alloc (Nat.le_refl _) _)) 1).alloc (by simp) _
abbrev lenE (n : Nat) : Ent := ⟨0, 0, lenP n, .nil, none, 0, none, 0⟩
theorem lenP_ok (n : Nat) (h : n ≤ 140737488351232) : (lenP n).ok := ⟨by simp only; omega, by simp only; omega, by show (0 : Nat) ≤ _; omega, by simp⟩
theorem lenE_lies (w : World) (n : Nat) (h : n ≤ 140737488351232) : (lenE n).lies w := ⟨lenP_ok n h, ⟨Or.inl rfl, ⟨by simp, by simp⟩, Nat.zero_le _⟩, ⟨by simp [flen], by simp [flen]⟩, Nat.zero_le _, Or.inl rfl⟩
/- an object more, where there is no room -/
theorem app_item1 (ia : Option Addr) (T : BT Pay) (n : Nat) (hnn : n ≤ 140737488351232) (w0 W : World) (hW : Below w0.heap.size w0 W) (hT : flen T = 0 ∨ ∃ b off, ia = some ⟨b, off, none⟩ ∧ b < w0.heap.size ∧ Rows w0 T b off) (hn : flen T ≤ 1599289640401) (H : Nat) (hH : W.heap.size = H) :
    ∃ a c W', (Builtin.append_ #[37, 37] 37 #[.slice ia (flen T) (flen T), .slice (some ⟨H, 0, none⟩) 1 1]).run Tryd.prog (W.alloc (.cells (lenE n).cells.toArray 39)) = .ok (.slice a (flen T + 1) c) W' ∧
      ((∀ W4, Below w0.heap.size w0 W4 → W'.heap.size ≤ W4.heap.size → (∀ k, W.heap.size ≤ k → k < W'.heap.size → W4.heap[k]? = W'.heap[k]?) → ∃ b' off', a = some ⟨b', off', none⟩ ∧ b' < W4.heap.size ∧ Rows W4 (snocF T (lenP n)) b' off') ∧ flen T + 1 ≤ c ∧ c ≤ 9223372036854775807) ∧ Below W.heap.size W W' := by
  obtain ⟨i0, hi, hz0, hz1, hz2⟩ := info_parts5 info_obj
  subst hH
  obtain ⟨l, hl, hib, hx⟩ : ∃ l : List Ent, forest l = T ∧ (l = [] ∨ ∃ b off, ia = some ⟨b, off, none⟩ ∧ b < w0.heap.size ∧ ∀ j, j < l.length * 6 → w0.cell? ⟨b, off + j, none⟩ = (ecells l)[j]?) ∧ ∀ x ∈ l, x.lies w0 := by
    rcases hT with h | ⟨b, off, e, hb, hR⟩
    · have := flen_zero h
      subst this
      exact ⟨[], rfl, Or.inl rfl, by simp⟩
    · obtain ⟨l, h1, h2, h3⟩ := rows_ents T b off hR
      exact ⟨l, h1, Or.inr ⟨b, off, e, hb, h2⟩, h3⟩
  have hfl : flen T = l.length := by rw [← hl, forest_len]
  rw [hfl] at hn ⊢
  have hal := (Below.refl W.heap.size W).alloc (Nat.le_refl _) (.cells (lenE n).cells.toArray 39)
  have hone : ∀ x : Ent, ∀ u ∈ x.cells, u.oneCell' = true := fun x u hu => by simp [Ent.cells] at hu; rcases hu with rfl | rfl | rfl | rfl | rfl | rfl <;> rfl
  have hs : Src Tryd.prog i0.size 37 (.slice (some ⟨W.heap.size, 0, none⟩) 1 1) 1 (lenE n).cells (W.alloc (.cells (lenE n).cells.toArray 39)) := by
    refine Src.ofSlice _ Tryd.underlying37 ⟨W.heap.size, 0, none⟩ 1 1 _ (by rw [hz1]; rfl) ?_ (hone _)
    intro j u hu
    rw [Go.WideShapes.add_plain, Nat.zero_add, World.cell?_alloc_at _ _ _ _ rfl]
    simpa using hu
  have hold : (Builtin.firstCells i0.size l.length (.slice ia l.length l.length)).run Tryd.prog (W.alloc (.cells (lenE n).cells.toArray 39)).drew = .ok (ecells l).toArray (W.alloc (.cells (lenE n).cells.toArray 39)).drew := by
    rcases hib with h | ⟨b, off, rfl, hb, hc⟩
    · subst h
      cases ia with
      | none => exact run_firstCells_none _ i0.size 0 0 0
      | some a => exact run_firstCells_some _ i0.size 0 _ 0 0 [] (by simp) (by simp)
    · refine run_firstCells_some _ i0.size l.length _ _ _ _ (by rw [hz1, ecells_len]) ?_
      intro j u hu
      have hj : j < (ecells l).length := (List.getElem?_eq_some_iff.1 hu).1
      rw [ecells_len] at hj
      rw [Go.WideShapes.add_plain]
      exact (((hal.cell (p := ⟨b, off + j, none⟩) (Nat.lt_of_lt_of_le hb hW.size)).trans (hW.cell (p := ⟨b, off + j, none⟩) hb)).trans (hc j hj)).trans hu
  have hr := run_append_grow_src (P := Tryd.prog) (W.alloc (.cells (lenE n).cells.toArray 39)) 37 37 37 39 i0 _ Tryd.underlying37 hi hz0 ia l.length l.length (ecells l) hold _ 1 _ hs (by omega) (by omega)
      (by rw [hz2]; exact growslice_fits_wide (by omega) (by omega))
  have hbf : Below W.heap.size W ((W.alloc (.cells (lenE n).cells.toArray 39)).drew.alloc (.cells ((ecells l ++ (lenE n).cells).toArray ++ Builtin.zeroCells (Value.agg #[.int .i64 0, .bool false, .int .i64 0, .string ByteArray.empty, .slice none 0 0, .slice none 0 0]).cells (grownCap (W.alloc (.cells (lenE n).cells.toArray 39)) (l.length + 1) l.length 39 - (l.length + 1))) 39)) := (below_drewN hal 1).alloc (by simp) _
  refine ⟨_, _, _, hr, ⟨fun W4 h4 h4s h4k => ⟨W.heap.size + 1, 0, by simp, Nat.lt_of_lt_of_le (by simp) h4s, ?_⟩, grownCap_ge _ _ _ _, ?_⟩, hbf⟩
  · rw [← hl, ← forest_snoc]
    refine rows_cells (fun j hj => ?_) fun x hm => ?_
    · have hj' : j < (ecells l ++ (lenE n).cells).length := by
        simp only [List.length_append, List.length_cons, List.length_nil] at hj
        rw [List.length_append, ecells_len]
        simp [Ent.cells]
        omega
      rw [Nat.zero_add, World.cell?_of_block (a := ⟨W.heap.size + 1, j, none⟩) (h4k (W.heap.size + 1) (by omega) (by simp)), World.cell?_alloc_at _ _ _ _ (by simp), Array.getElem?_append_left (by simpa using hj'), List.getElem?_toArray, ecells_append]
    · rcases List.mem_append.1 hm with hm | hm
      · exact OIn.below h4 (hx x hm)
      · obtain rfl : x = lenE n := by simpa using hm
        exact lenE_lies _ n hnn
  · have := grownCap_le_maxLen (W.alloc (.cells (lenE n).cells.toArray 39)) (l.length + 1) l.length 39 (by simp only [maxLen]; omega)
    simpa only [maxLen] using this
/- slices.Clip -/
theorem clip_s (ka : Option Addr) (n kc : Nat) (w : World) (h1 : n ≤ kc) (h2 : kc ≤ 9223372036854775807) :
    Calls Tryd.prog 31 #[.slice ka n kc] w fun e w' => e = .returned (.slice ka n n) ∧ w' = w := by
  have h0 : (0 : Int) ≤ (n : Int) := by omega
  have h1' : (n : Int) ≤ (kc : Int) := by omega
  have h2' : (kc : Int) ≤ 9223372036854775807 := by omega
  cases ka
  all_goals
    go_enter Tryd.func31, Tryd.ntmps31
    go_wp2_with fail
    go_ret
    exact ⟨rfl, rfl⟩
theorem clip_o (ia : Option Addr) (n ic : Nat) (w : World) (h1 : n ≤ ic) (h2 : ic ≤ 9223372036854775807) :
    Calls Tryd.prog 32 #[.slice ia n ic] w fun e w' => e = .returned (.slice ia n n) ∧ w' = w := by
  have h0 : (0 : Int) ≤ (n : Int) := by omega
  have h1' : (n : Int) ≤ (ic : Int) := by omega
  have h2' : (ic : Int) ≤ 9223372036854775807 := by omega
  cases ia
  all_goals
    go_enter Tryd.func32, Tryd.ntmps32
    go_wp2_with fail
    go_ret
    exact ⟨rfl, rfl⟩
end Go.Proofs.YtlnkddmpcicejaaDoor
/-
  The landed withLength, walked.
-/
namespace Go.Proofs.YtlnkddmpcicejaaDoor
open Go.RowKit Go.Deep
set_option linter.unusedVariables false

abbrev ev (x : EP) (ka : Option Addr) (kc : Nat) (ia : Option Addr) (ic : Nat) : Value := .agg #[.int .i64 x.p.kind, .bool x.p.flag, .int .i64 x.p.num, .string x.p.text, .slice ka x.p.keys.length kc, .slice ia (flen x.T) ic, .bool x.st, .string x.da]
abbrev lbox (n : Nat) : Array Value := #[.int .i64 2, .bool false, .int .i64 n, .string ⟨#[]⟩, .slice none 0 0, .slice none 0 0]
abbrev kbox (p : Pay) (a : Option Addr) (n c : Nat) (ia : Option Addr) (m ic : Nat) : Array Value := #[.int .i64 p.kind, .bool p.flag, .int .i64 p.num, .string p.text, .slice a n c, .slice ia m ic]
abbrev wvv (p : Pay) (a : Option Addr) (n c : Nat) (ia : Option Addr) (m ic : Nat) : Value := .agg #[.int .i64 p.kind, .bool p.flag, .int .i64 p.num, .string p.text, .slice a n c, .slice ia m ic]
/- the answer's parts lie in w0 and in what the call has made: so they lie in every world that has kept these -/
def WlR (x : EP) (w0 w : World) (e : Ending) (w' : World) : Prop := ∃ ka kc ia ic, e = .returned (ov (addK x.p) ka kc ia (flen (snocF x.T (lenP x.da.size))) ic) ∧ ∀ W4, Below w0.heap.size w0 W4 → w'.heap.size ≤ W4.heap.size → (∀ k, w.heap.size ≤ k → k < w'.heap.size → W4.heap[k]? = w'.heap[k]?) → OIn W4 (addK x.p) (snocF x.T (lenP x.da.size)) ka kc ia ic
set_option maxRecDepth 8000 in
set_option maxHeartbeats 4000000 in
theorem withLength_any (x : EP) (ka : Option Addr) (kc : Nat) (ia : Option Addr) (ic : Nat) (w0 w : World) (hW : Below w0.heap.size w0 w) (hin : OIn w0 x.p x.T ka kc ia ic) (hd : x.da.size ≤ 140737488351232) (hkb : x.p.keys.length ≤ 8796093022207) (hib : flen x.T ≤ 1599289640400) :
    Calls Tryd.prog 26 #[ev x ka kc ia ic] w fun e w' => WlR x w0 w e w' ∧ Below w.heap.size w w' := by
  have HI := hide hin
  have hB0 : Below w.heap.size w ((((w.alloc (.cells (ebox x ka kc ia ic) 41)).alloc (.cells zobj 39)).alloc (.cells (lbox x.da.size) 39)).alloc (.cells (obox x.p ka kc ia (flen x.T) ic) 39)) := ((((Below.refl w.heap.size w).alloc (Nat.le_refl _) _).alloc (by simp) _).alloc (by simp; omega) _).alloc (by simp; omega) _
  have hz0 : ((((w.alloc (.cells (ebox x ka kc ia ic) 41)).alloc (.cells zobj 39)).alloc (.cells (lbox x.da.size) 39)).alloc (.cells (obox x.p ka kc ia (flen x.T) ic) 39)).heap.size = w.heap.size + 1 + 1 + 1 + 1 := by simp
  have CK := hide (fun w' => clip_s ka x.p.keys.length kc w' hin.2.1.2.1.1 hin.2.1.2.2)
  have CO := hide (fun w' => clip_o ia (flen x.T) ic w' hin.2.2.1.1 hin.2.2.2.1)
  obtain ⟨W0, hW0⟩ : ∃ W0, ((((w.alloc (.cells (ebox x ka kc ia ic) 41)).alloc (.cells zobj 39)).alloc (.cells (lbox x.da.size) 39)).alloc (.cells (obox x.p ka kc ia (flen x.T) ic) 39)) = W0 := ⟨_, rfl⟩
  have hK0 : Blk W0 (w.heap.size + 1 + 1 + 1) (obox x.p ka kc ia (flen x.T) ic) 39 := by
    have := Blk.new (((w.alloc (.cells (ebox x ka kc ia ic) 41)).alloc (.cells zobj 39)).alloc (.cells (lbox x.da.size) 39)) (obox x.p ka kc ia (flen x.T) ic) 39
    rw [hW0] at this
    rwa [show (((w.alloc (.cells (ebox x ka kc ia ic) 41)).alloc (.cells zobj 39)).alloc (.cells (lbox x.da.size) 39)).heap.size = w.heap.size + 1 + 1 + 1 by simp] at this
  have hL0 : Blk W0 (w.heap.size + 1 + 1) (lbox x.da.size) 39 := by
    have := (Blk.new ((w.alloc (.cells (ebox x ka kc ia ic) 41)).alloc (.cells zobj 39)) (lbox x.da.size) 39).below ((Below.refl _ _).alloc (Nat.le_refl _) (.cells (obox x.p ka kc ia (flen x.T) ic) 39))
    rw [hW0] at this
    rwa [show ((w.alloc (.cells (ebox x ka kc ia ic) 41)).alloc (.cells zobj 39)).heap.size = w.heap.size + 1 + 1 by simp] at this
  have hZ0 : Blk W0 (w.heap.size + 1) zobj 39 := by
    have := ((Blk.new (w.alloc (.cells (ebox x ka kc ia ic) 41)) zobj 39).below ((Below.refl _ _).alloc (Nat.le_refl _) (.cells (lbox x.da.size) 39))).below ((Below.refl _ _).alloc (Nat.le_refl _) (.cells (obox x.p ka kc ia (flen x.T) ic) 39))
    rw [hW0] at this
    rwa [show (w.alloc (.cells (ebox x ka kc ia ic) 41)).heap.size = w.heap.size + 1 by simp] at this
  rw [hW0] at hB0 hz0
  obtain ⟨a, c, W1, hr, ⟨hS1, hc1, hc2⟩, hb1⟩ := app_key1 ka x.p.keys lenS W0 ((hin.2.1.1.below hW).below hB0) (by omega) (w.heap.size + 1 + 1 + 1 + 1) hz0
  have hs1 : w.heap.size + 1 + 1 + 1 + 1 ≤ W1.heap.size := by have := hb1.size; omega
  have hK1 := hK0.below hb1
  have q4 := hK1.cell 4
  have z4 := hK1.frozen 4
  have e4 : (obox x.p ka kc ia (flen x.T) ic)[4]? = some (.slice ka x.p.keys.length kc) := rfl
  rw [e4] at q4
  obtain ⟨W2, hW2⟩ : ∃ W2, W1.setCell ⟨w.heap.size + 1 + 1 + 1, 4, none⟩ (.slice a (x.p.keys.length + 1) c) = W2 := ⟨_, rfl⟩
  have hK2 : Blk W2 (w.heap.size + 1 + 1 + 1) (kbox x.p a (x.p.keys.length + 1) c ia (flen x.T) ic) 39 := by
    have := hK1.set 4 (.slice a (x.p.keys.length + 1) c)
    rw [hW2] at this
    exact this
  have hL2 : Blk W2 (w.heap.size + 1 + 1) (lbox x.da.size) 39 := by rw [← hW2]; exact (hL0.below hb1).other (by omega) _ _
  have hZ2 : Blk W2 (w.heap.size + 1) zobj 39 := by rw [← hW2]; exact (hZ0.below hb1).other (by omega) _ _
  have hB2 : Below w.heap.size w W2 := by rw [← hW2]; exact (below_t5 hB0 hb1).setCell (p := ⟨w.heap.size + 1 + 1 + 1, 4, none⟩) (by simp; omega) _
  have hS2 : Strs (fresh W0.heap.size W2) a (x.p.keys ++ [lenS]) := hS1.sub (only_sub (by rw [← hW2]; simp [World.setCell]) fun k h1 h2 => ⟨h1, by rw [← hW2]; exact Below.heap_setCell _ _ _ _ (by simp; omega)⟩)
  have hs2 : W2.heap.size = W1.heap.size := by rw [← hW2]; simp [World.setCell]
  obtain ⟨a2, c2, W3, hr3, ⟨hR3, hc3, hc4⟩, hb3⟩ := app_item1 ia x.T x.da.size hd w0 W2.drew (by have h := below_t5 hW hB2; exact ⟨h.os, h.tape, h.output, h.size, h.block⟩) hin.2.2.2.2 (by omega) W2.heap.size rfl
  have hb3' : Below W2.heap.size W2 W3 := ⟨hb3.os, hb3.tape, hb3.output, hb3.size, hb3.block⟩
  have hK3 := hK2.below hb3'
  have HK3 := hide hK3
  have HZ3 := hide (hZ2.below hb3')
  have HB3 := hide (below_t5 hB2 hb3')
  have HS3 := hide (hS2.sub (fresh_le (Nat.le_refl _) hb3'))
  have HC := hide (show (x.p.keys.length + 1 ≤ c ∧ c ≤ 9223372036854775807) ∧ (flen x.T + 1 ≤ c2 ∧ c2 ≤ 9223372036854775807) from ⟨⟨hc1, hc2⟩, hc3, hc4⟩)
  have HR3 := hide hR3
  have HW2 := hide hW2
  rw [← hW0] at hr
  have HR := hide hr
  have HRx := hide hr3
  have g5 := hK2.cell 5
  have e5 : (kbox x.p a (x.p.keys.length + 1) c ia (flen x.T) ic)[5]? = some (.slice ia (flen x.T) ic) := rfl
  rw [e5] at g5
  obtain ⟨⟨l0, l1, l2, l3, l4, l5⟩, _⟩ := hL2.six
  have q5 := hK3.cell 5
  rw [e5] at q5
  have z5 := hK3.frozen 5
  have hs3 : w.heap.size + 1 + 1 + 1 < W2.heap.size := by omega
  have HZ := hide (show W0.heap.size = w.heap.size + 1 + 1 + 1 + 1 from hz0)
  clear hs1 hs2 hz0
  clear hr hr3 hK0 hL0 hZ0 hK1 hK2 hL2 hZ2 hB2 hS1 hS2 hB0 hb1 hb3 hb3' hK3 hR3 hc1 hc2 hc3 hc4 e4 e5 hin hW0
  go_enter Tryd.func26, Tryd.ntmps26
  go_wp2_with (first | (go_at_call 31; refine (CK.out _).mono ?_; rintro e wy ⟨rfl, rfl⟩) | (at_builtin; refine Lib.wpList_append_run _ rfl _ _ _ _ rfl _ _ rfl rfl _ _ HR.out ?_))
  try rw [HW2.out]
  clear hW2
  clear q4 z4
  go_cut [4] from 17 (fun s4 wc => s4 = .pointer (some ⟨w.heap.size + 1 + 1 + 1, 0, none⟩) ∧ wc = W3.setCell ⟨w.heap.size + 1 + 1 + 1, 5, none⟩ (.slice a2 (flen x.T + 1) c2))
  case first =>
    go_region_law ((first | (go_simp; go_at_call 32; refine (CO.out _).mono ?_; rintro e wy ⟨rfl, rfl⟩) | (refine step_append_run _ (by rfl) _ _ _ _ rfl _ _ (by rfl) (by rfl) _ _ HRx.out ?_)))
    all_goals (go_wp2_with fail; go_meet; exact ⟨rfl, rfl⟩)
  case rest =>
    obtain ⟨rfl, rfl⟩ := hcut
    have hK4 := HK3.out.set 5 (.slice a2 (flen x.T + 1) c2)
    have hZ4 := HZ3.out.other (b' := w.heap.size + 1 + 1 + 1) (by omega) 5 (.slice a2 (flen x.T + 1) c2)
    have hB4 : Below w.heap.size w (W3.setCell ⟨w.heap.size + 1 + 1 + 1, 5, none⟩ (.slice a2 (flen x.T + 1) c2)) := HB3.out.setCell (p := ⟨w.heap.size + 1 + 1 + 1, 5, none⟩) (by simp; omega) _
    have hS4 : Sub (fresh W0.heap.size W3) (fresh W0.heap.size (W3.setCell ⟨w.heap.size + 1 + 1 + 1, 5, none⟩ (.slice a2 (flen x.T + 1) c2))) := only_sub (by simp [World.setCell]) fun k h1 h2 => ⟨h1, Below.heap_setCell _ _ _ _ (by simp; have := HZ.out; omega)⟩
    have hk4 : ∀ k, W2.heap.size ≤ k → k < W3.heap.size → (W3.setCell ⟨w.heap.size + 1 + 1 + 1, 5, none⟩ (.slice a2 (flen x.T + 1) c2)).heap[k]? = W3.heap[k]? := fun k h1 h2 => Below.heap_setCell _ _ _ _ (by simp; omega)
    have hs4 : W3.heap.size ≤ (W3.setCell ⟨w.heap.size + 1 + 1 + 1, 5, none⟩ (.slice a2 (flen x.T + 1) c2)).heap.size := by simp [World.setCell]
    generalize W3.setCell ⟨w.heap.size + 1 + 1 + 1, 5, none⟩ (.slice a2 (flen x.T + 1) c2) = W4 at hK4 hZ4 hB4 hS4 hk4 hs4 ⊢
    have hK4 : Blk W4 (w.heap.size + 1 + 1 + 1) (kbox x.p a (x.p.keys.length + 1) c a2 (flen x.T + 1) c2) 39 := hK4
    obtain ⟨⟨o0, o1, o2, o3, o4, o5⟩, _⟩ := hK4.six
    obtain ⟨⟨r0, r1, r2, r3, r4, r5⟩, y0, y1, y2, y3, y4, y5⟩ := hZ4.six
    have HZ4 := hide hZ4
    have HB4 := hide hB4
    have HS4 := hide hS4
    have Hk4 := hide hk4
    have Hs4 := hide hs4
    clear hK4 hZ4 hB4 hS4 hk4 hs4 g5 q5 z5 l0 l1 l2 l3 l4 l5
    go_wp2_with fail
    have hbf := st6_below HB4.out (b := w.heap.size + 1) (by omega) (.int .i64 x.p.kind) (.bool x.p.flag) (.int .i64 x.p.num) (.string x.p.text) (.slice a (x.p.keys.length + 1) c) (.slice a2 (flen x.T + 1) c2)
    have hkf := st6_blk HZ4.out (.int .i64 x.p.kind) (.bool x.p.flag) (.int .i64 x.p.num) (.string x.p.text) (.slice a (x.p.keys.length + 1) c) (.slice a2 (flen x.T + 1) c2)
    have hbl : ∀ k, k ≠ w.heap.size + 1 → (st6 W4 (w.heap.size + 1) (.int .i64 x.p.kind) (.bool x.p.flag) (.int .i64 x.p.num) (.string x.p.text) (.slice a (x.p.keys.length + 1) c) (.slice a2 (flen x.T + 1) c2)).heap[k]? = W4.heap[k]? := fun k hk => st6_block hk _ _ _ _ _ _
    have hsz := st6_size W4 (w.heap.size + 1) (.int .i64 x.p.kind) (.bool x.p.flag) (.int .i64 x.p.num) (.string x.p.text) (.slice a (x.p.keys.length + 1) c) (.slice a2 (flen x.T + 1) c2)
    simp only [st6] at hbf hkf hbl hsz
    generalize (((((W4.setCell ⟨w.heap.size + 1, 0, none⟩ (.int .i64 x.p.kind)).setCell ⟨w.heap.size + 1, 1, none⟩ (.bool x.p.flag)).setCell ⟨w.heap.size + 1, 2, none⟩ (.int .i64 x.p.num)).setCell ⟨w.heap.size + 1, 3, none⟩ (.string x.p.text)).setCell ⟨w.heap.size + 1, 4, none⟩ (.slice a (x.p.keys.length + 1) c)).setCell ⟨w.heap.size + 1, 5, none⟩ (.slice a2 (flen x.T + 1) c2) = wf at hbf hkf hbl hsz ⊢
    obtain ⟨⟨f0, f1, f2, f3, f4, f5⟩, _⟩ := hkf.six
    have ek : (x.p.keys ++ [lenS]).length = x.p.keys.length + 1 := by simp
    have et : flen (snocF x.T (lenP x.da.size)) = flen x.T + 1 := snocF_len _ _
    refine bodyPost_ret (v := wvv x.p a (x.p.keys.length + 1) c a2 (flen x.T + 1) c2) (by simp [results, Tryd.results26, go_sem, f0, f1, f2, f3, f4, f5]) rfl ⟨⟨a, c, a2, c2, by rw [et]; exact congrArg (fun m => Ending.returned (wvv x.p a m c a2 (flen x.T + 1) c2)) ek.symm, ?_⟩, hbf⟩
    intro V hV hVs hVk
    refine ⟨⟨HI.out.1.1, HI.out.1.2.1, HI.out.1.2.2.1, fun s hs => ?_⟩, ⟨?_, ⟨by rw [ek]; exact HC.out.1.1, by rw [ek]; omega⟩, HC.out.1.2⟩, ⟨by rw [et]; exact HC.out.2.1, by rw [et]; omega⟩, HC.out.2.2, Or.inr ?_⟩
    · rcases List.mem_append.1 hs with hs | hs
      · exact HI.out.1.2.2.2 s hs
      · obtain rfl : s = lenS := by simpa using hs
        decide
    · have h1 := (HS3.out.sub HS4.out).sub (only_sub (S' := fun k => W0.heap.size ≤ k) (w' := wf) (by rw [hsz]; exact Nat.le_refl _) fun k h1 h2 => ⟨h1, hbl k (by have := HZ.out; omega)⟩)
      exact (h1.sub (only_sub (S' := fun k => W0.heap.size ≤ k) (w' := V) hVs fun k h1 h2 => ⟨h1, hVk k (by have := HZ.out; omega) h2⟩)).sub (fresh_sub _ _)
    · exact HR3.out V hV (by have h1 := Hs4.out; omega) (fun k h1 h2 => by
        have h3 : W2.heap.size ≤ k := h1
        rw [hVk k (by omega) (by have h4 := Hs4.out; omega), hbl k (by omega)]
        exact Hk4.out k h1 h2)
end Go.Proofs.YtlnkddmpcicejaaDoor
/-
  What the landed may and Check answer.
-/
namespace Go.Proofs.YtlnkddmpcicejaaDoor
open Go.RowKit Go.Deep
set_option linter.unusedVariables false

def EOk (x : EP) : Prop := x.da.size ≤ 140737488351232 ∧ x.p.keys.length ≤ 8796093022207 ∧ flen x.T ≤ 1599289640400
def mayV (x : EP) : Bool := if x.st then (x.p.kind == 7) && decide (0 < goodV (addK x.p) (snocF x.T (lenP x.da.size)) 0 0) else (x.da.toList == []) && decide (0 < goodV x.p x.T 0 0)
set_option maxRecDepth 8000 in
set_option maxHeartbeats 2000000 in
theorem may_any (x : EP) (ka : Option Addr) (kc : Nat) (ia : Option Addr) (ic : Nat) (w : World) (hin : OIn w x.p x.T ka kc ia ic) (hok : EOk x) :
    Calls Tryd.prog 25 #[ev x ka kc ia ic] w fun e w' => e = .returned (.bool (mayV x)) ∧ Below w.heap.size w w' := by
  have hal := (Below.refl w.heap.size w).alloc (Nat.le_refl _) (.cells (ebox x ka kc ia ic) 41)
  have CW := hide (withLength_any x ka kc ia ic _ _ (Below.refl _ _) (hin.below hal) hok.1 hok.2.1 hok.2.2)
  have CG := hide (oGood_any x.p x.T ka kc ia ic _ (hin.below hal))
  have CGL := hide (fun w' a c a2 c2 (h : OIn w' (addK x.p) (snocF x.T (lenP x.da.size)) a c a2 c2) => oGood_any (addK x.p) (snocF x.T (lenP x.da.size)) a c a2 c2 w' h)
  have HB := hide hal
  clear hin hok hal
  unfold mayV
  obtain ⟨p, T, st, da⟩ := x
  dsimp only at CW CG CGL HB ⊢
  cases st
  · rw [if_neg (by simp)]
    cases e1 : (da.toList == ([] : List UInt8))
    · rw [Bool.false_and]
      go_enter Tryd.func25, Tryd.ntmps25
      go_wp2_with fail
      go_ret
      exact ⟨rfl, HB.out⟩
    · rw [Bool.true_and]
      go_enter Tryd.func25, Tryd.ntmps25
      go_wp2_with (go_at_call 30; refine CG.out.mono ?_; rintro e w1 ⟨rfl, h1⟩; have H1 := hide h1; clear h1)
      go_ret
      exact ⟨rfl, below_t5 HB.out H1.out⟩
  · rw [if_pos rfl]
    cases e1 : (p.kind == 7)
    · rw [Bool.false_and]
      go_enter Tryd.func25, Tryd.ntmps25
      go_wp2_with fail
      go_ret
      exact ⟨rfl, HB.out⟩
    · rw [Bool.true_and]
      go_enter Tryd.func25, Tryd.ntmps25
      go_wp2_with fail
      refine CW.out.mono ?_
      rintro e w1 ⟨⟨a, c, a2, c2, rfl, hin1⟩, h1⟩
      have H1 := hide (below_t5 HB.out h1)
      have CH := hide (CGL.out w1 a c a2 c2 (hin1 w1 h1 (Nat.le_refl _) (fun _ _ _ => rfl)))
      clear h1 hin1 CW CGL CG
      go_wp2_with (go_at_call 30; refine CH.out.mono ?_; rintro e w2 ⟨rfl, h2⟩; have H2 := hide h2; clear h2)
      go_ret
      exact ⟨rfl, below_t5 H1.out H2.out⟩
def ckV (l : List EP) (root : Int) : Int := if l.length < 1 ∨ 4096 < l.length ∨ root < 1 ∨ (l.length : Int) < root then 1 else if l.all mayV then 0 else 50
set_option maxRecDepth 8000 in
set_option maxHeartbeats 4000000 in
theorem check_any (l : List EP) (ea : Option Addr) (ec : Nat) (root : Int) (w : World) (hin : FIn w l ea ec) (hok : ∀ e ∈ l, EOk e) :
    Calls Tryd.prog 19 #[fv l ea ec root] w fun e w' => e = .returned (.int .i64 (ckV l root)) ∧ Below w.heap.size w w' := by
  have hl1 : (l.length : Int) ≤ 1256584717450 := by have h := hin.1.1.2; omega
  have hl0 : (0 : Int) ≤ (l.length : Int) := by omega
  have HB0 := hide ((Below.refl w.heap.size w).alloc (Nat.le_refl _) (.cells (fbox l ea ec root) 24))
  obtain ⟨b, off, hea, hrows⟩ := hin.at_
  have HEA := hide hea
  have HRW := hide hrows
  have HOK := hide hok
  clear hin hea hrows hok
  unfold ckV
  by_cases hbad : l.length < 1 ∨ 4096 < l.length ∨ root < 1 ∨ (l.length : Int) < root
  · rw [if_pos hbad]
    have hbi : (l.length : Int) < 1 ∨ (4096 : Int) < (l.length : Int) ∨ root < 1 ∨ (l.length : Int) < root := by omega
    clear hbad
    by_cases h1 : (l.length : Int) < 1
    · go_enter Tryd.func19, Tryd.ntmps19
      go_wp2_with fail
      go_ret
      exact ⟨rfl, HB0.out⟩
    by_cases h2 : (4096 : Int) < (l.length : Int)
    · go_enter Tryd.func19, Tryd.ntmps19
      go_wp2_with fail
      go_ret
      exact ⟨rfl, HB0.out⟩
    by_cases h3 : root < 1
    · go_enter Tryd.func19, Tryd.ntmps19
      go_wp2_with fail
      go_ret
      exact ⟨rfl, HB0.out⟩
    have h4 : (l.length : Int) < root := by omega
    clear hbi
    go_enter Tryd.func19, Tryd.ntmps19
    go_wp2_with fail
    go_ret
    exact ⟨rfl, HB0.out⟩
  · rw [if_neg hbad]
    have h1 : ¬ (l.length : Int) < 1 := by omega
    have h2 : ¬ (4096 : Int) < (l.length : Int) := by omega
    have h3 : ¬ root < 1 := by omega
    have h4 : ¬ (l.length : Int) < root := by omega
    clear hbad
    obtain ⟨R, hR⟩ : ∃ R : Int, (if l.all mayV = true then (0 : Int) else 50) = R := ⟨_, rfl⟩
    rw [hR]
    have HRR := hide hR
    clear hR
    go_enter Tryd.func19, Tryd.ntmps19
    go_wp2_with fail
    go_loopw [29] (fun vi wr => ∃ (k : Nat) (U : List EP), vi = .int .i64 k ∧ Hid (U.length + k = l.length ∧ ERows w U b (off + k * 8) ∧ (∀ e ∈ U, e ∈ l) ∧ l.all mayV = U.all mayV ∧ Below w.heap.size w wr)) (fun vi _ => l.length - (intOf vi).toNat)
    case atStart => exact ⟨0, l, rfl, hide ⟨by omega, by simpa using HRW.out, fun _ h => h, rfl, HB0.out⟩⟩
    case round =>
      clear HB0 HRW
      obtain ⟨k, U, rfl, HV⟩ := hrel
      obtain ⟨hk, hrow, hsub, hall, hbel⟩ := HV.out
      have HB := hide hbel
      have hk0 : (0 : Int) ≤ (k : Int) := by omega
      cases U with
      | nil =>
        have hk' : ¬ (k : Int) < (l.length : Int) := by simp at hk; omega
        have ha : R = 0 := by rw [← HRR.out, if_pos (show l.all mayV = true from hall)]
        have HA := hide ha
        clear HV hk hrow hsub hall hbel ha
        go_wp2_with fail
        go_ret
        exact ⟨by rw [HA.out]; rfl, HB.out⟩
      | cons x U =>
        obtain ⟨⟨⟨ka, kc, ia, ic, g6, gin⟩, gs, gd⟩, grest⟩ := hrow
        obtain rfl | ⟨rfl, hbz⟩ := HEA.out
        · simp at hk
        have hlt : (k : Int) < (l.length : Int) := by simp at hk; omega
        have hal := (Below.refl wr.heap.size wr).alloc (Nat.le_refl _) (.cells (ebox x ka kc ia ic) 41)
        have CM := hide (may_any x ka kc ia ic _ ((gin.below hbel).below hal) (HOK.out x (hsub x (by simp))))
        have HAL := hide hal
        obtain ⟨c0, c1, c2, c3, c4, c5⟩ := g6.below hbz hbel
        have c6 := (hbel.cell (p := ⟨b, off + k * 8 + 6, none⟩) hbz).trans gs
        have c7 := (hbel.cell (p := ⟨b, off + k * 8 + 7, none⟩) hbz).trans gd
        have HGR := hide grest
        have HKK := hide (show U.length + (k + 1) = l.length ∧ (∀ e ∈ U, e ∈ l) from ⟨by simp at hk; omega, fun e he => hsub e (by simp [he])⟩)
        rw [List.all_cons] at hall
        clear HV hk hsub hbel g6 gin gs gd grest hal
        cases hm : mayV x
        · rw [hm] at CM hall
          have HA := hide (show R = 50 by rw [← HRR.out, hall, Bool.false_and, if_neg (by simp)])
          clear hall
          go_wp2_with (go_at_call 25; refine CM.out.mono ?_; rintro e w1 ⟨rfl, h1⟩; have H1 := hide h1; clear h1)
          go_ret
          exact ⟨by rw [HA.out]; rfl, below_t5 (below_t5 HB.out HAL.out) H1.out⟩
        · rw [hm] at CM hall
          rw [Bool.true_and] at hall
          have HALL := hide hall
          clear hall
          go_wp2_with (go_at_call 25; refine CM.out.mono ?_; rintro e w1 ⟨rfl, h1⟩; have H1 := hide h1; clear h1)
          go_roundw
          case rel => exact ⟨k + 1, U, by go_num, hide ⟨HKK.out.1, by have := HGR.out; rw [show off + (k + 1) * 8 = off + k * 8 + 8 by omega]; exact this, HKK.out.2, HALL.out, below_t5 (below_t5 HB.out HAL.out) H1.out⟩⟩
          case measure => simp [intOf]; omega
end Go.Proofs.YtlnkddmpcicejaaDoor
