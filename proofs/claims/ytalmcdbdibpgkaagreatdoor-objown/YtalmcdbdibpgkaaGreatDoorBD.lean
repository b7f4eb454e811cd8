/-
  Joined: O5LGoo, O5Opn.
-/
import Derived.Test.YtalmcdbdibpgkaaGreatDoorBC
import Derived.Test.YtalmcdbdibpgkaaGreatDoorBG
import Derived.Deep.RegionWith
import Derived.Test.YtalmcdbdibpgkaaGreatDoorBA
import Derived.ProofKit
import Derived.OpenShut
import Derived.ChangeSlices
import Derived.ChangeArms
import Derived.SliceStrings
import Derived.SizedLaws
import Derived.Deep.Slices
/-
  The law ObjGoods, walked: of any two objects that lie.
-/
namespace Go.Proofs.YtalmcdbdibpgkaaGreatDoor
open Go.RowKit Go.Deep

/- a value that is an object: it lies -/
inductive CopyOf (p : Pay) (T : BT Pay) (v : Value) (x : World) : Prop where
  | mk (ka : Option Addr) (kc : Nat) (ia : Option Addr) (ic : Nat) (hv : v = ov p ka kc ia (flen T) ic) (hin : OIn x p T ka kc ia ic) : CopyOf p T v x
theorem CopyOf.below {p : Pay} {T : BT Pay} {v : Value} {x y : World} (h : CopyOf p T v x) (hb : Below x.heap.size x y) : CopyOf p T v y := by
  obtain ⟨ka, kc, ia, ic, rfl, hin⟩ := h
  exact ⟨ka, kc, ia, ic, rfl, hin.below hb⟩
theorem copy_of {p : Pay} {T : BT Pay} {v : Value} {x : World} (h : CopyOf p T v x) : Calls Tryz.prog 10 #[v] x fun e w' => ∃ v', e = .returned v' ∧ CopyOf p T v' w' ∧ Below x.heap.size x w' := by
  obtain ⟨ka, kc, ia, ic, rfl, hin⟩ := h
  refine (rcopy_any p T ka kc ia ic x hin).mono ?_
  rintro e w' ⟨⟨ka2, kc2, ia2, ic2, rfl, h2⟩, hb⟩
  exact ⟨_, rfl, ⟨ka2, kc2, ia2, ic2, rfl, h2.sub (fresh_sub _ _)⟩, hb⟩
theorem good_of {p : Pay} {T : BT Pay} {v : Value} {x : World} (h : CopyOf p T v x) : Calls Tryz.prog 16 #[v] x fun e w' => e = .returned (.bool (decide (0 < goodV p T 0 0))) ∧ Below x.heap.size x w' := by
  obtain ⟨ka, kc, ia, ic, rfl, hin⟩ := h
  exact oGood_any p T ka kc ia ic x hin
theorem rgood_of {p : Pay} {T : BT Pay} {v : Value} {x : World} (h : CopyOf p T v x) : Calls Tryz.prog 18 #[v] x fun e w' => e = .returned (.bool (decide (0 < goodV p T 0 0))) ∧ Below x.heap.size x w' := by
  obtain ⟨ka, kc, ia, ic, rfl, hin⟩ := h
  exact rgood_any p T ka kc ia ic x hin
theorem same_of {p q : Pay} {T U : BT Pay} {v u : Value} {x : World} (h : CopyOf p T v x) (k : CopyOf q U u x) : Calls Tryz.prog 81 #[v, u] x fun e w' => e = .returned (.bool (sameV p T q U)) ∧ Below x.heap.size x w' := by
  obtain ⟨ka, kc, ia, ic, rfl, hin⟩ := h
  obtain ⟨kb, kd, ib, id, rfl, hin2⟩ := k
  exact osame_any p q T U ka kb kc kd ia ib ic id x hin hin2
theorem rsame_of {p q : Pay} {T U : BT Pay} {v u : Value} {x : World} (h : CopyOf p T v x) (k : CopyOf q U u x) : Calls Tryz.prog 13 #[v, u] x fun e w' => e = .returned (.bool (sameV p T q U)) ∧ Below x.heap.size x w' := by
  obtain ⟨ka, kc, ia, ic, rfl, hin⟩ := h
  obtain ⟨kb, kd, ib, id, rfl, hin2⟩ := k
  exact rsame_any p q T U ka kb kc kd ia ib ic id x hin hin2
end Go.Proofs.YtalmcdbdibpgkaaGreatDoor
/-
  An object that came in: it lies as a tree.
-/
namespace Go.Proofs.YtalmcdbdibpgkaaGreatDoor
open Go.ChangeShapes Go.WideShapes Go.RowKit Go.Deep

theorem cells_int : Tryz.prog.cellsOf 3 = 1 := by kernel_rfl
theorem cells_bool : Tryz.prog.cellsOf 4 = 1 := by kernel_rfl
theorem cells_str : Tryz.prog.cellsOf 9 = 1 := by kernel_rfl
theorem cells_strs : Tryz.prog.cellsOf 22 = 1 := by kernel_rfl
theorem cells_objs : Tryz.prog.cellsOf 23 = 1 := by kernel_rfl
theorem cells_obj : Tryz.prog.cellsOf 25 = 6 := by kernel_rfl
theorem bytes_str : Tryz.prog.bytesOf 9 = 16 := by kernel_rfl
theorem bytes_obj : Tryz.prog.bytesOf 25 = 88 := by kernel_rfl
def sixL (p : Pay) (ka : Option Addr) (kc : Nat) (ia : Option Addr) (n ic : Nat) : List Value := [.int .i64 p.kind, .bool p.flag, .int .i64 p.num, .string p.text, .slice ka p.keys.length kc, .slice ia n ic]
theorem len6 {α : Type} {l : List α} (h : l.length = 6) : ∃ a b c d e f, l = [a, b, c, d, e, f] := by
  match l, h with
  | [a, b, c, d, e, f], _ => exact ⟨a, b, c, d, e, f, rfl⟩
theorem strs_at5 {w : World} {a : Addr} {ss : List ByteArray} (h : ∀ i, i < ss.length → w.cell? (a.add i) = some (.string (ss.getD i ByteArray.empty))) (n : Nat) (hn : n ≤ ss.length) : Strs w (some a) (ss.take n) := by
  rcases Nat.eq_zero_or_pos n with h0 | h0
  · subst h0; exact Or.inl (by simp)
  · obtain ⟨b, off, spot⟩ := a
    have hspot : spot = none := by simpa [Addr.add] using World.cell?_spot (h 0 (by omega))
    subst hspot
    have h' : ∀ i, i < ss.length → w.cell? ⟨b, off + i, none⟩ = some (.string (ss.getD i ByteArray.empty)) := fun i hi => by rw [← Go.WideShapes.add_plain]; exact h i hi
    refine Or.inr ⟨b, off, rfl, ?_, fun i hi => ?_⟩
    · have := h' 0 (by omega)
      by_cases hb : b < w.heap.size
      · exact hb
      · unfold World.cell? at this
        rw [Array.getElem?_eq_none (by show w.heap.size ≤ b; omega)] at this
        simp at this
    · rw [List.length_take] at hi
      rw [h' i (by omega), List.getD_eq_getElem?_getD, List.getD_eq_getElem?_getD, List.getElem?_take, if_pos (by omega)]
section
variable {H : Type} {enc : TypeId × Value → H} {W : World} {base : Nat} {sp : Nat → Bool} {held : Bool}
def OpenAt (enc : TypeId × Value → H) (W : World) (base : Nat) (sp : Nat → Bool) (held : Bool) (n : Nat) : Prop :=
  ∀ (cs : List Value) (x : DataW H × List MemPlace), DataW.trod enc Tryz.prog W base sp held n 25 cs = some x → (∀ k ∈ x.1.weights Tryz.prog 25, k ≤ reachBytes) →
    ∃ p T ka kc ia ic, cs = sixL p ka kc ia (flen T) ic ∧ OIn W p T ka kc ia ic
theorem open_rows (n : Nat) (IH : OpenAt enc W base sp held n) : ∀ (es : List (DataW H × List MemPlace)) (b off : Nat), (∀ i, i < es.length → (W.cells? base ⟨b, off + i * 6, none⟩ 6).bind (DataW.trod enc Tryz.prog W base sp held n 25) = es[i]?) →
    (∀ k ∈ DataW.weightsAll Tryz.prog 25 (es.map (·.1)), k ≤ reachBytes) → ∃ T, flen T = es.length ∧ Rows W T b off
  | [], _, _, _, _ => ⟨.nil, rfl, trivial⟩
  | e :: es, b, off, h, hw => by
    have h0 := h 0 (by simp)
    simp only [Nat.zero_mul, Nat.add_zero, List.getElem?_cons_zero] at h0
    obtain ⟨cs, hc, ht⟩ := Option.bind_eq_some_iff.1 h0
    simp only [List.map_cons, DataW.weightsAll] at hw
    obtain ⟨p, T, ka, kc, ia, ic, rfl, hin⟩ := IH cs e ht (fun k hk => hw k (List.mem_append_left _ hk))
    obtain ⟨N, hN, hR⟩ := open_rows n IH es b (off + 6) (fun i hi => by
      have := h (i + 1) (by simp; omega)
      rw [show off + (i + 1) * 6 = off + 6 + i * 6 by omega] at this
      simpa using this) (fun k hk => hw k (List.mem_append_right _ hk))
    obtain ⟨_, _, hcell⟩ := World.cells?_some hc
    have g : ∀ j, j < 6 → W.cell? ⟨b, off + j, none⟩ = (sixL p ka kc ia (flen T) ic)[j]? := fun j hj => by rw [← Go.WideShapes.add_plain]; exact hcell j hj
    exact ⟨.node 0 0 p T N, by simp [flen, hN], rows_node.2 ⟨⟨ka, kc, ia, ic, ⟨g 0 (by omega), g 1 (by omega), g 2 (by omega), g 3 (by omega), g 4 (by omega), g 5 (by omega)⟩, hin⟩, hR⟩⟩
set_option maxRecDepth 8000 in
theorem open_core : ∀ n, OpenAt enc W base sp held n
  | 0 => fun cs x h _ => by simp [DataW.trod] at h
  | n + 1 => fun cs x h hw => by
    obtain ⟨xs, m, hm, rfl, hlen, hxl, hf⟩ := DataW.trod_struct Tryz.underlying25 h
    obtain rfl : m = n := by omega
    rw [cells_obj] at hlen
    obtain ⟨a0, a1, a2, a3, a4, a5, rfl⟩ := len6 hlen
    obtain ⟨x0, x1, x2, x3, x4, x5, rfl⟩ := len6 (show xs.length = 6 from hxl)
    have g0 := hf 0 _ rfl
    have g1 := hf 1 _ rfl
    have g2 := hf 2 _ rfl
    have g3 := hf 3 _ rfl
    have g4 := hf 4 _ rfl
    have g5 := hf 5 _ rfl
    simp [cells_int, cells_bool, cells_str, cells_strs, cells_objs] at g0 g1 g2 g3 g4 g5
    obtain ⟨kd, e0, _, w0⟩ := DataW.trod_int Tryz.underlying3 g0
    obtain ⟨fl, e1, _⟩ := DataW.trod_bool Tryz.underlying4 g1
    obtain ⟨nm, e2, _, w2⟩ := DataW.trod_int Tryz.underlying3 g2
    obtain ⟨tx, e3, _, w3⟩ := DataW.trod_string Tryz.underlying9 g3
    have hw : ∀ k ∈ DataW.weights Tryz.prog 22 x4.1 ++ DataW.weights Tryz.prog 23 x5.1, k ≤ reachBytes := fun k hk => hw k (by
      simp only [List.map_cons, List.map_nil, DataW.weights, Tryz.underlying25, DataW.weightsEach, List.mem_append] at hk ⊢
      rcases hk with hk | hk
      · right; right; right; right; left; exact hk
      · right; right; right; right; right; left; exact hk)
    have hk4 : ∃ ka kc keys, a4 = .slice ka (keys : List ByteArray).length kc ∧ Strs W ka keys ∧ (keys.length ≤ kc ∧ keys.length ≤ 8796093022208) ∧ kc ≤ 9223372036854775807 ∧ ∀ s ∈ keys, s.size ≤ 9223372036854775807 := by
      rcases open_strings Tryz.underlying22 Tryz.underlying9 cells_str g4 with ⟨hcs, _⟩ | ⟨a, len, cap, ss, hcs, _, hl, hmx, hsl, hx, hc, hz⟩
      · simp at hcs
        exact ⟨none, 0, [], hcs, Or.inl rfl, by simp, by omega, by simp⟩
      · simp at hcs
        have hle : len ≤ ss.length := by rw [hsl]; split <;> omega
        have hlt : (ss.take len).length = len := by rw [List.length_take]; omega
        have hwt := hw (((strs (ss.take len) : List (DataW H)).length + (strs (ss.drop len) : List (DataW H)).length) * 16) (List.mem_append_left _ (by rw [hx]; simp only [DataW.weights, Tryz.underlying22, bytes_str]; exact List.mem_cons_self))
        refine ⟨some a, cap, ss.take len, by rw [hlt]; exact hcs, strs_at5 hc len hle, ⟨by rw [hlt]; exact hl, ?_⟩, by unfold maxLen at hmx; exact hmx, fun s hs => by have := hz s (List.mem_of_mem_take hs); unfold maxLen at this; exact this⟩
        simp only [strs, List.length_map, List.length_take, reachBytes] at hwt
        rw [hlt]
        omega
    have hk5 : ∃ ia ic T, a5 = .slice ia (flen T) ic ∧ (flen T ≤ ic ∧ flen T ≤ 1599289640401) ∧ ic ≤ 9223372036854775807 ∧ (flen T = 0 ∨ ∃ b' off', ia = some ⟨b', off', none⟩ ∧ b' < W.heap.size ∧ Rows W T b' off') := by
      rcases DataW.trod_slice Tryz.underlying23 g5 with ⟨hcs, _⟩ | ⟨a, len, cap, elems, rest, n', hn', hcs, hx, _, hl, hmx, hel, hei, _, _⟩
      · simp at hcs
        exact ⟨none, 0, .nil, hcs, by simp [flen], by omega, Or.inl rfl⟩
      · simp at hcs
        have hwt := hw ((elems.length + rest.length) * 88) (List.mem_append_right _ (by rw [hx]; simp only [DataW.weights, Tryz.underlying23, bytes_obj, List.length_map]; exact List.mem_cons_self))
        have hwa : ∀ k ∈ DataW.weightsAll Tryz.prog 25 (elems.map (·.1)), k ≤ reachBytes := fun k hk => hw k (List.mem_append_right _ (by rw [hx]; simp only [DataW.weights, Tryz.underlying23]; exact List.mem_cons_of_mem _ (List.mem_append_left _ hk)))
        rcases Nat.eq_zero_or_pos len with h0 | h0
        · subst h0
          exact ⟨some a, cap, .nil, hcs, by simp [flen], by unfold maxLen at hmx; exact hmx, Or.inl rfl⟩
        · obtain ⟨b, off, spot⟩ := a
          have h00 := hei 0 h0
          rw [List.getElem?_eq_getElem (by omega), cells_obj] at h00
          obtain ⟨cs0, hc0, _⟩ := Option.bind_eq_some_iff.1 h00
          obtain ⟨_, hcl, hcell⟩ := World.cells?_some hc0
          obtain ⟨c0, c1, c2, c3, c4, c5, rfl⟩ := len6 hcl
          have hc00 := hcell 0 (by omega)
          simp only [List.getElem?_cons_zero] at hc00
          have hspot : spot = none := by simpa [Addr.add] using World.cell?_spot hc00
          subst hspot
          have hb : b < W.heap.size := by
            have := World.cells?_block hc0 (by omega)
            simpa [Addr.add] using this
          obtain ⟨T, hT, hR⟩ := open_rows n' (by
            have : n' < m := by omega
            exact open_core n') elems b off (fun i hi => by
              have := hei i (by omega)
              rw [cells_obj, Go.WideShapes.add_plain] at this
              exact this) hwa
          refine ⟨some ⟨b, off, none⟩, cap, T, by rw [hT, hel]; exact hcs, ⟨by rw [hT, hel]; exact hl, ?_⟩, by unfold maxLen at hmx; exact hmx, Or.inr ⟨b, off, rfl, hb, hR⟩⟩
          simp only [reachBytes] at hwt
          rw [hT]
          omega
    obtain ⟨ka, kc, keys, rfl, hS, hk1, hk2, hk3⟩ := hk4
    obtain ⟨ia, ic, T, rfl, hi1, hi2, hi3⟩ := hk5
    simp at e0 e1 e2 e3
    subst e0 e1 e2 e3
    exact ⟨⟨kd, fl, nm, tx, keys⟩, T, ka, kc, ia, ic, rfl, ⟨bounds_i64 w0, bounds_i64 w2, by unfold maxLen at w3; exact w3, hk3⟩, ⟨hS, hk1, hk2⟩, hi1, hi2, hi3⟩
variable {r : Reach} {b0 : Nat} {v : Value} {d : DataW H} {pl : List MemPlace}
set_option maxRecDepth 8000 in
theorem open_obj (hv : Value.okWide Tryz.prog W r b0 25 v) (h : DataW.Trod enc Tryz.prog W base sp held 25 v d pl) (hw : ∀ k ∈ d.weights Tryz.prog 25, k ≤ reachBytes) :
    ∃ p T ka kc ia ic, v = ov p ka kc ia (flen T) ic ∧ OIn W p T ka kc ia ic := by
  simp only [Value.okWide, Tryz.underlying25] at hv
  obtain ⟨cs, rfl, _, _⟩ := hv
  obtain ⟨fuel, hf⟩ := h
  obtain ⟨p, T, ka, kc, ia, ic, hcs, hin⟩ := open_core fuel _ _ hf hw
  refine ⟨p, T, ka, kc, ia, ic, ?_, hin⟩
  have : cs.toList = sixL p ka kc ia (flen T) ic := hcs
  cases cs
  simp only at this
  subst this
  rfl
theorem wts0 {P : Program} {t : TypeId} {ts : List TypeId} {d : DataW H} {r : List (DataW H)} (h : (DataW.weightsEach P (t :: ts) (d :: r)).all (· ≤ reachBytes) = true) : ∀ k ∈ d.weights P t, k ≤ reachBytes := fun k hk => by
  simpa using List.all_eq_true.1 h k (by simp only [DataW.weightsEach]; exact List.mem_append_left _ hk)
theorem wts1 {P : Program} {t u : TypeId} {ts : List TypeId} {c d : DataW H} {r : List (DataW H)} (h : (DataW.weightsEach P (t :: u :: ts) (c :: d :: r)).all (· ≤ reachBytes) = true) : ∀ k ∈ d.weights P u, k ≤ reachBytes := fun k hk => by
  simpa using List.all_eq_true.1 h k (by simp only [DataW.weightsEach]; exact List.mem_append_right _ (List.mem_append_left _ hk))
end
end Go.Proofs.YtalmcdbdibpgkaaGreatDoor
