/-
  A strings.Builder of a call's own in memory; what its copyCheck, WriteString, WriteRune and String answer.
-/
import Derived.Test.YtpmdekhjodhdmaaDoorK17B
import Derived.Test.YtpmdekhjodhdmaaDoorU4Row
import Derived.Test.YtpmdekhjodhdmaaDoorShelf
import Derived.Test.YtpmdekhjodhdmaaDoorShelfB
import Derived.Lib.Strings
import Derived.Lib.AppendStr
import Derived.BigCall
namespace Go.Proofs.YtpmdekhjodhdmaaDoor.K17
open Go.RowKit Go.Proofs.YtpmdekhjodhdmaaDoor
open Go.Lib
set_option linter.unusedVariables false
set_option linter.unusedSimpArgs false
set_option maxRecDepth 8000

theorem heap_lt {w : World} {b : Nat} {o : Obj} (h : w.heap[b]? = some o) : b < w.heap.size := by
  rcases Nat.lt_or_ge b w.heap.size with hl | hl
  · exact hl
  · rw [Array.getElem?_eq_none hl] at h; cases h
theorem ownsRow_kc {w w' : World} {B : Nat} {e : TypeId} {size n : Nat} {v : Value} {xs : List Value} (h : w.ownsRow B e size v n xs) (hk : ∀ (k : Nat) (c : Array Value) (t : TypeId) (f : Nat × Nat), w.heap[k]? = some (Obj.cells c t f) → w'.heap[k]? = w.heap[k]?) : w'.ownsRow B e size v n xs := by
  obtain ⟨h1, h2 | ⟨g, cap, cur, hv, hg, hh, hr⟩⟩ := h
  · exact ⟨h1, Or.inl h2⟩
  · exact ⟨h1, Or.inr ⟨g, cap, cur, hv, hg, by rw [hk g _ _ _ hh]; exact hh, hr⟩⟩
/- every block of cells is as it was -/
def KC (w w' : World) : Prop := ∀ (k : Nat) (c : Array Value) (t : TypeId) (f : Nat × Nat), w.heap[k]? = some (Obj.cells c t f) → w'.heap[k]? = w.heap[k]?
theorem KC.of_below {w w' : World} (h : Below w.heap.size w w') : KC w w' := fun k c t f hh => h.block k (heap_lt hh)
theorem KC.iterAt {w : World} {k : Nat} {s : ByteArray} {pos : Nat} (hk : w.heap[k]? = some (.stringIter s pos)) (pos' : Nat) : KC w (w.iterAt k s pos') := fun j c t f hh => by
  rw [iterAt_other]
  rintro rfl
  rw [hk] at hh; cases hh
def Bd (w : World) (B b : Nat) (l : List UInt8) : Prop := Lib.IsBuilder 58 5 B b (l.map bcell) w
theorem Bd.kept {w w' : World} {B b : Nat} {l : List UInt8} (h : Bd w B b l) (hk : KC w w') : Bd w' B b l := by
  have : ∀ p, BuilderAt 58 5 B b p (l.map bcell) w → BuilderAt 58 5 B b p (l.map bcell) w' := fun p ⟨h1, v, h2, h3, h4⟩ => ⟨h1, v, by rw [hk _ _ _ _ h2]; exact h2, ownsRow_kc h3 hk, h4⟩
  rcases h with h | h
  · exact Or.inl (this _ h)
  · exact Or.inr (this _ h)
theorem Bd.below {w w' : World} {B b : Nat} {l : List UInt8} (h : Bd w B b l) (hb : Below w.heap.size w w') : Bd w' B b l := h.kept (KC.of_below hb)
theorem Bd.new (w : World) : Bd (w.alloc (.cells #[.pointer none, .slice none 0 0] 58)) w.heap.size w.heap.size [] := Lib.fresh_isBuilder _ _ w
theorem Bd.lt {w : World} {B b : Nat} {l : List UInt8} (h : Bd w B b l) : B ≤ b ∧ b < w.heap.size := by
  rcases h with ⟨h1, v, h2, _⟩ | ⟨h1, v, h2, _⟩ <;> exact ⟨h1, heap_lt h2⟩
/- what a write leaves as it was -/
structure Wr (B b : Nat) (w w' : World) : Prop where
  below : Below B w w'
  oth : Lib.OthersKept 5 (some b) w w'
theorem Wr.trans {B b : Nat} {u v w : World} (h : Wr B b u v) (k : Wr B b v w) : Wr B b u w := ⟨h.below.trans k.below, h.oth.trans k.oth⟩
theorem Wr.refl (B b : Nat) (w : World) : Wr B b w w := ⟨Below.refl _ _, OthersKept.refl _ _ _⟩
theorem lies_bd : liesAt Tryd.prog Tryd.prog.depth 58 (2 / Tryd.prog.cellsOf 58) 0 58 1 = true := by kernel_rfl
theorem size_bd : (Tryd.prog.info? 58).map (·.size) = some 2 := by kernel_rfl

set_option maxHeartbeats 1000000 in
theorem ccheck_fresh (b : Nat) (w : World) (h0 : w.cell? ⟨b, 0, none⟩ = some (.pointer none)) (hsh : w.shape? b = some (58, 2)) (hfz : w.frozen? ⟨b, 0, none⟩ = false) :
    Calls Tryd.prog 68 #[.pointer (some ⟨b, 0, none⟩)] w fun e w' => e = .returned (.tuple #[]) ∧ w' = w.setCell ⟨b, 0, none⟩ (.pointer (some ⟨b, 0, none⟩)) := by
  obtain ⟨j, hj, hjs⟩ := Option.map_eq_some_iff.1 size_bd
  go_enter Tryd.func68, Tryd.ntmps68
  go_wp2
  rw [Lib.run_to_unsafe w ⟨b, 0, none⟩ Tryd.underlying55 Tryd.underlying111 hj (by rw [hjs]; decide) hsh (Nat.zero_lt_succ 1)]
  simp only [Result.andThen]
  rw [Oper.upon_value]
  go_wp2
  rw [run_callFunc_extern (show Tryd.prog.funcs[81]? = some _ from by rfl) (by kernel_rfl) (by kernel_rfl) (e := Extern.AbiNoEscape.same) (by kernel_rfl) (by kernel_rfl)]
  rw [Lib.run_noEscape]
  simp only [Result.andThen]
  rw [Oper.upon_value]
  go_wp2
  rw [Lib.run_from_unsafe w ⟨b, 0, none⟩ Tryd.underlying111 Tryd.underlying55 hj hsh lies_bd]
  simp only [Result.andThen]
  rw [Oper.upon_value]
  go_wp2
  go_end0
  exact ⟨rfl, rfl⟩
theorem ccheck_used (b : Nat) (w : World) (h0 : w.cell? ⟨b, 0, none⟩ = some (.pointer (some ⟨b, 0, none⟩))) :
    Calls Tryd.prog 68 #[.pointer (some ⟨b, 0, none⟩)] w fun e w' => e = .returned (.tuple #[]) ∧ w' = w := by
  go_enter Tryd.func68, Tryd.ntmps68
  go_wp2
  obtain ⟨j, hj, _⟩ := Option.map_eq_some_iff.1 size_bd
  rw [Lib.run_neq_ptr_same w _ Tryd.underlying55 hj]
  go_wp2
  go_end0
  exact ⟨rfl, rfl⟩
theorem ccheck_any (B b : Nat) (bs : List Value) (w : World) (h : Lib.IsBuilder 58 5 B b bs w) :
    Calls Tryd.prog 68 #[.pointer (some ⟨b, 0, none⟩)] w fun e w' => e = .returned (.tuple #[]) ∧ Lib.BuilderAt 58 5 B b (.pointer (some ⟨b, 0, none⟩)) bs w' ∧ Wr B b w w' := by
  rcases h with h | h
  · refine (ccheck_fresh b w h.cell0 h.shape h.frozen0).mono ?_
    rintro e w' ⟨rfl, rfl⟩
    exact ⟨rfl, h.used _, (Below.refl B w).setCell (p := ⟨b, 0, none⟩) h.1 _, (Lib.OthersKept.refl _ _ w).setCell ⟨b, 0, none⟩ rfl _⟩
  · refine (ccheck_used b w h.cell0).mono ?_
    rintro e w' ⟨rfl, rfl⟩
    exact ⟨rfl, h, Wr.refl _ _ _⟩
theorem kind_row {w : World} {B : Nat} {e : TypeId} {v : Value} {n : Nat} {xs : List Value} (h : w.ownsRow B e 1 v n xs) : ∀ g, v.ownBlock = some g → ∃ c fz, w.heap[g]? = some (.cells c e fz) := by
  intro g hg
  obtain ⟨_, ⟨h0, _⟩ | ⟨g', cap, cur, hv, _, hh, _⟩⟩ := h
  · rw [h0] at hg; simp [Value.ownBlock] at hg
  · rw [hv] at hg
    have : g' = g := by simpa [Value.ownBlock] using hg
    subst this
    exact ⟨_, _, hh⟩

set_option maxHeartbeats 2000000 in
theorem wstr_any (B b : Nat) (l : List UInt8) (s : ByteArray) (w : World) (h : Bd w B b l) (hlen : l.length + s.size ≤ 140737488355328) (hBw : B ≤ w.heap.size) :
    Calls Tryd.prog 49 #[.pointer (some ⟨b, 0, none⟩), .string s] w fun e w' => e = .returned (.tuple #[.int .i64 s.size, .nilIface]) ∧ Bd w' B b (l ++ s.data.toList) ∧ Wr B b w w' := by
  obtain ⟨i0, hi, hz0, hz1, hz2⟩ := info_parts info_u8
  go_enter Tryd.func49, Tryd.ntmps49
  go_wp2_with (go_at_call 68; refine (ccheck_any B b _ _ h).mono ?_)
  rintro e w1 ⟨rfl, h1, hb1⟩
  obtain ⟨hB, v, hbk, hown, hne⟩ := h1
  have c0 : w1.cell? ⟨b, 0, none⟩ = some (.pointer (some ⟨b, 0, none⟩)) := by rw [Lib.cell_of_heap hbk]; rfl
  have c1 : w1.cell? ⟨b, 1, none⟩ = some v := by rw [Lib.cell_of_heap hbk]; rfl
  have hl2 : (l.map bcell).length + s.size ≤ 140737488355328 := by simpa using hlen
  go_wp2_with (at_builtin; refine Lib.wpList_append_own_string _ rfl _ _ 56 9 rfl B 5 i0 Tryd.underlying56 Tryd.underlying9 hi hz0 hz1 hz2 _ _ _ rfl hown s rfl ?c3 ?c4 ?c5 ?_)
  case c3 => unfold maxLen; omega
  case c4 => omega
  case c5 => have := hb1.below.size; omega
  intro v' w2 hown' hgrow _
  have hlt : b < w1.heap.size := heap_lt hbk
  have hb2 : w2.heap[b]? = some (.cells #[.pointer (some ⟨b, 0, none⟩), v] 58 (0, 0)) := by
    rw [hgrow.block b hlt (fun e => hne e.symm)]
    exact hbk
  have d0 : w2.cell? ⟨b, 0, none⟩ = some (.pointer (some ⟨b, 0, none⟩)) := by rw [Lib.cell_of_heap hb2]; rfl
  have d1 : w2.cell? ⟨b, 1, none⟩ = some v := by rw [Lib.cell_of_heap hb2]; rfl
  have f1 : w2.frozen? ⟨b, 1, none⟩ = false := Lib.frozen_of_heap hb2 1
  obtain ⟨ao, n', cap, rfl⟩ : ∃ ao n' cap, v' = .slice ao n' cap := by
    rcases hown'.2 with ⟨hv, _⟩ | ⟨g, cap, cur, hv, _⟩
    · exact ⟨_, _, _, hv⟩
    · exact ⟨_, _, _, hv⟩
  go_wp2
  go_ret2
  refine ⟨rfl, Or.inr ?_, ?_, (hb1.oth.grown hgrow (kind_row hown)).setCell ⟨b, 1, none⟩ rfl _⟩
  · exact Lib.BuilderAt.put (T := 58) (e := 5) hB hb2 (bs' := (l ++ s.data.toList).map bcell) (by rw [List.map_append, List.length_append, show s.data.toList.map bcell = Lib.strCells s from rfl]; simpa [Lib.strCells_length] using hown') (by decide)
  · exact (hb1.below.grown hgrow (by have := hb1.below.size; omega) (fun k hk => (hown.lt k hk).1)).setCell (p := ⟨b, 1, none⟩) hB _
theorem runeCells_e8 (c : Nat) (h : isP (c : Int) = true) : Lib.runeCells (c : Int) = (e8 c).map bcell := by
  have hp := isP_t.1 h
  have bb : ∀ (n : Nat) (x : Int), n < 256 → x = (n : Int) → Value.int .u8 x = bcell (bt n) := by
    intro n x hn hx
    unfold bcell
    rw [bt_nat n hn, hx]
  unfold Lib.runeCells
  by_cases c1 : c < 128
  · rw [Lib.encodeRuneZ_one (by omega) (by omega), u8_1 c1]
    simp only [List.map_cons, List.map_nil]
    rw [bb c _ (by omega) rfl]
  by_cases c2 : c < 2048
  · rw [Lib.encodeRuneZ_two (by omega) (by omega), u8_2 (by omega) c2]
    simp only [List.map_cons, List.map_nil]
    rw [bb (192 + c / 64) _ (by omega) (by omega), bb (128 + c % 64) _ (by omega) (by omega)]
  by_cases c3 : c < 65536
  · rw [Lib.encodeRuneZ_three (by omega), u8_3 (by omega) c3]
    simp only [List.map_cons, List.map_nil]
    rw [bb (224 + c / 4096) _ (by omega) (by omega), bb (128 + c / 64 % 64) _ (by omega) (by omega), bb (128 + c % 64) _ (by omega) (by omega)]
  · rw [Lib.encodeRuneZ_four (by omega) (by omega), u8_4 (by omega)]
    simp only [List.map_cons, List.map_nil]
    rw [bb (240 + c / 262144) _ (by omega) (by omega), bb (128 + c / 4096 % 64) _ (by omega) (by omega), bb (128 + c / 64 % 64) _ (by omega) (by omega), bb (128 + c % 64) _ (by omega) (by omega)]
set_option maxHeartbeats 4000000 in
theorem wrune_any (B b : Nat) (l : List UInt8) (c : Nat) (w : World) (hc : isP (c : Int) = true) (h : Bd w B b l) (hlen : l.length + 4 ≤ 140737488355328) (hBw : B ≤ w.heap.size) :
    Calls Tryd.prog 54 #[.pointer (some ⟨b, 0, none⟩), .int .i32 (c : Int)] w fun e w' => e = .returned (.tuple #[.int .i64 ((e8 c).length : Nat), .nilIface]) ∧ Bd w' B b (l ++ e8 c) ∧ Wr B b w w' := by
  have hp := isP_t.1 hc
  have hk4 := code8.len c
  go_enter Tryd.func54, Tryd.ntmps54
  go_wp2_with (go_at_call 68; refine (ccheck_any B b _ _ h).mono ?_)
  rintro e w1 ⟨rfl, h1, hb1⟩
  obtain ⟨hB, v, hbk, hown, hne⟩ := h1
  rw [List.length_map] at hown
  obtain ⟨ao, cap, rfl⟩ : ∃ ao cap, v = .slice ao l.length cap := by
    rcases hown.2 with ⟨hv, h0⟩ | ⟨g, cap, cur, hv, _⟩
    · exact ⟨none, 0, by rw [hv, h0]⟩
    · exact ⟨_, _, hv⟩
  have c0 : w1.cell? ⟨b, 0, none⟩ = some (.pointer (some ⟨b, 0, none⟩)) := by rw [Lib.cell_of_heap hbk]; rfl
  have c1 : w1.cell? ⟨b, 1, none⟩ = some (.slice ao l.length cap) := by rw [Lib.cell_of_heap hbk]; rfl
  have ca := Any.utf8_AppendRune_plain lays242 (by kernel_rfl) B _ l.length _ (c : Int) (by omega) (by omega) w1 hown hlen (by have := hb1.below.size; omega)
  rw [runeCells_e8 c hc, List.length_map] at ca
  have CA := hide ca
  clear ca
  go_wp2_with (go_at_call 71; refine CA.out.mono ?_)
  rintro e w2 ⟨v', rfl, hown', o, hgrow⟩
  have hlt : b < w1.heap.size := heap_lt hbk
  have hb2 : w2.heap[b]? = some (.cells #[.pointer (some ⟨b, 0, none⟩), .slice ao l.length cap] 58 (0, 0)) := by
    rw [hgrow.block b (by simp; omega) (fun e => hne e.symm), Lib.alloc_old w1 _ b hlt]
    exact hbk
  have d0 : w2.cell? ⟨b, 0, none⟩ = some (.pointer (some ⟨b, 0, none⟩)) := by rw [Lib.cell_of_heap hb2]; rfl
  have d1 : w2.cell? ⟨b, 1, none⟩ = some (.slice ao l.length cap) := by rw [Lib.cell_of_heap hb2]; rfl
  have f1 : w2.frozen? ⟨b, 1, none⟩ = false := Lib.frozen_of_heap hb2 1
  obtain ⟨g, cap', rfl⟩ : ∃ g cap', v' = .slice (some ⟨g, 0, none⟩) (l.length + (e8 c).length) cap' := by
    rcases hown'.2 with ⟨_, h0⟩ | ⟨g, cap', cur, hv, _⟩
    · omega
    · exact ⟨g, cap', hv⟩
  have e0 : ((l.length : Int) + ((e8 c).length : Int) - (l.length : Int)) = ((e8 c).length : Int) := by omega
  generalize hE : (e8 c).length = E at *
  go_wp2
  go_ret2
  refine ⟨?_, Or.inr ?_, ?_, ((hb1.oth.alloc _).grown hgrow (kind_row (World.ownsRow.alloc hown _))).setCell ⟨b, 1, none⟩ rfl _⟩
  · simp [e0, hE]
  · exact Lib.BuilderAt.put (T := 58) (e := 5) hB hb2 (bs' := (l ++ e8 c).map bcell) (by rw [List.map_append, List.length_append, List.length_map, List.length_map, hE]; exact hown') (by decide)
  · exact ((hb1.below.alloc (by have := hb1.below.size; omega) _).grown hgrow (by have := hb1.below.size; simp; omega) (fun k hk => (hown.lt k hk).1)).setCell (p := ⟨b, 1, none⟩) hB _
theorem byteCells_b (l : List UInt8) : Lib.byteCells l = l.map bcell := rfl
theorem bstr_any (B b : Nat) (l : List UInt8) (w : World) (h : Bd w B b l) (hBw : B ≤ w.heap.size) :
    Calls Tryd.prog 29 #[.pointer (some ⟨b, 0, none⟩)] w fun e w' => e = .returned (.string ⟨l.toArray⟩) ∧ Below B w w' :=
  (Any.Builder_String_any_k lays169 Builder_Extra_169 B b l w (by rw [byteCells_b]; exact IsBuilderF.of h) hBw).mono fun e w' h => ⟨h.1, h.2.2.1⟩
end Go.Proofs.YtpmdekhjodhdmaaDoor.K17
