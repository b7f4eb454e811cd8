/-
  Joined: O5Ldm, O5Ldi.
-/
import Derived.Test.YtalmcdbdibpgkaaGreatDoorBO
/-
  Two rows that one call grows in turn: its keys and its items.
-/
namespace Go.Proofs.YtalmcdbdibpgkaaGreatDoor
open Go.RowKit Go.Deep
set_option linter.unusedVariables false

def OwnOf (v : Value) (k : Nat) : Prop := v.ownBlock = some k
def ORowE (E : Nat → Prop) (w : World) (B : Nat) (v : Value) (l : List Ent) : Prop := w.ownsRow B 25 6 v l.length (ecells l) ∧ ∀ x ∈ l, x.lies (only (fun k => Part B v k ∧ ¬ E k) w)
theorem ORowE.nil (E : Nat → Prop) (w : World) (B : Nat) : ORowE E w B (.slice none 0 0) [] := ⟨World.ownsRow_nil _ _ _ _, by simp⟩
theorem ORowE.row {E : Nat → Prop} {w : World} {B : Nat} {v : Value} {l : List Ent} (h : ORowE E w B v l) : ORow w B v l :=
  ⟨h.1, fun x hx => OIn.sub (only_sub (Nat.le_refl _) fun k hk _ => ⟨hk.1, rfl⟩) (h.2 x hx)⟩
theorem ORowE.keep {E E' : Nat → Prop} {w w' : World} {B : Nat} {v : Value} {l : List Ent} (h : ORowE E w B v l) (hs : w.heap.size ≤ w'.heap.size) (hk : ∀ k, B ≤ k → k < w.heap.size → ¬ E k → w'.heap[k]? = w.heap[k]?) (hE : ∀ k, k < w.heap.size → E' k → E k) (hv : ∀ g, v.ownBlock = some g → ¬ E g) : ORowE E' w' B v l := by
  refine ⟨?_, fun x hx => OIn.sub (only_sub hs fun k h1 h2 => ⟨⟨h1.1, fun e => h1.2 (hE k h2 e)⟩, hk k h1.1.1 h2 h1.2⟩) (h.2 x hx)⟩
  obtain ⟨h1, h2 | ⟨g, cap, cur, hvv, hg, hh, hr⟩⟩ := h.1
  · exact ⟨h1, Or.inl h2⟩
  · have hlt : g < w.heap.size := by
      rcases Nat.lt_or_ge g w.heap.size with h | h
      · exact h
      · rw [Array.getElem?_eq_none h] at hh; simp at hh
    exact ⟨h1, Or.inr ⟨g, cap, cur, hvv, hg, by rw [hk g hg hlt (hv g (by rw [hvv]; simp [Value.ownBlock]))]; exact hh, hr⟩⟩
theorem ORowE.appended {E : Nat → Prop} {w w1 w2 : World} {B g cap : Nat} {v : Value} {l : List Ent} {x : Ent} (h : ORowE E w B v l) (hs : w.heap.size ≤ w1.heap.size) (hB : B ≤ w.heap.size) (hEl : ∀ k, E k → k < w.heap.size) (hk : ∀ k, B ≤ k → k < w.heap.size → ¬ E k → w1.heap[k]? = w.heap[k]?)
    (hx : x.lies (fresh w.heap.size w1)) (hown : w2.ownsRow B 25 6 (.slice (some ⟨g, 0, none⟩) (l.length + 1) cap) (l.length + 1) (ecells l ++ x.cells)) (hg : w1.grownBy w2 v.ownBlock) (hat : v.ownBlock = some g ∨ w1.heap.size ≤ g) :
    ORowE E w2 B (.slice (some ⟨g, 0, none⟩) (l.length + 1) cap) (l ++ [x]) := by
  have hv : ∀ k, v.ownBlock = some k → k < w.heap.size := fun k hk => (World.ownsRow.lt h.1 k hk).2
  have hb : ∀ k, k < w1.heap.size → v.ownBlock ≠ some k → w2.heap[k]? = w1.heap[k]? := fun k h1 h2 => hg.block k h1 (fun h => h2 h.symm)
  refine ⟨by rw [ecells_append]; simpa using hown, fun y hy => ?_⟩
  rcases List.mem_append.1 hy with hy | hy
  · refine OIn.sub (only_sub (Nat.le_trans hs hg.size) fun k h1 h2 => ⟨⟨⟨h1.1.1, ?_⟩, h1.2⟩, ?_⟩) (h.2 y hy)
    · rw [hb k (by omega) h1.1.2, hk k h1.1.1 h2 h1.2]
    · intro e
      have e : g = k := by simpa [Value.ownBlock] using e
      rcases hat with ha | ha
      · exact h1.1.2 (by rw [ha, e])
      · omega
  · obtain rfl : y = x := by simpa using hy
    refine OIn.sub (only_sub hg.size fun k h1 h2 => ⟨⟨⟨by omega, ?_⟩, fun e => by have := hEl k e; omega⟩, ?_⟩) hx
    · exact hb k h2 (fun e => by have := hv _ e; omega)
    · intro e
      have e : g = k := by simpa [Value.ownBlock] using e
      rcases hat with ha | ha
      · have := hv _ ha; omega
      · omega
/- one more item: the row's world W, then a call's W1 -/
theorem app_objE {E : Nat → Prop} {W W1 : World} {B : Nat} {v : Value} {l : List Ent} (x : Ent) (h : ORowE E W B v l) (hs : W.heap.size ≤ W1.heap.size) (hEl : ∀ k, E k → k < W.heap.size) (hk : ∀ k, B ≤ k → k < W.heap.size → W1.heap[k]? = W.heap[k]?) (hB : B ≤ W.heap.size) (hx : x.lies (fresh W.heap.size W1)) (hn : l.length + 1 ≤ 1599289640401) :
    ∃ g N cap w2, (Builtin.append_ #[23, 23] 23 #[v, .slice (some ⟨W1.heap.size, 0, none⟩) 1 1]).run Tryz.prog (W1.alloc (.cells x.cells.toArray 25)) = .ok (.slice (some ⟨g, 0, none⟩) N cap) w2 ∧
      ORowE E w2 B (.slice (some ⟨g, 0, none⟩) N cap) (l ++ [x]) ∧ Below B W1 w2 ∧ (∀ k, k < W1.heap.size → v.ownBlock ≠ some k → w2.heap[k]? = W1.heap[k]?) ∧ (v.ownBlock = some g ∨ W1.heap.size ≤ g) := by
  obtain ⟨i0, hi, hz0, hz1, hz2⟩ := info_parts5 info_obj
  have hown : (W1.alloc (.cells x.cells.toArray 25)).ownsRow B 25 6 v l.length (ecells l) := (ownsRow_kept h.1 hk).alloc _
  obtain ⟨g, cap, w2, hr, ho, hg, hat, hlt⟩ := run_append_lies (P := Tryz.prog) (W1.alloc (.cells x.cells.toArray 25)) 23 23 B 25 i0 _ 6 88 Tryz.underlying23 hi hz0 hz1 hz2 rfl (by decide) v l.length (ecells l) hown ⟨W1.heap.size, 0, none⟩ 1 1 x.cells rfl
    (fun j u hu => by rw [Go.WideShapes.add_plain, Nat.zero_add, World.cell?_alloc_at _ _ _ _ rfl]; simpa using hu) (fun u hu => by simp [Ent.cells] at hu; rcases hu with rfl | rfl | rfl | rfl | rfl | rfl <;> rfl) (by decide) (by unfold maxLen; omega) (by omega) (by simp; omega) (W1.heap.size + 1) (by simp)
  have hat' : v.ownBlock = some g ∨ (W1.alloc (.cells x.cells.toArray 25)).heap.size ≤ g := by
    rcases hat with ha | ha
    · exact Or.inl ha
    · exact Or.inr (by rw [ha]; simp)
  refine ⟨g, _, cap, w2, hr, ?_, ?_, ?_, ?_⟩
  · refine h.appended (w1 := W1.alloc (.cells x.cells.toArray 25)) (by simp; omega) hB hEl (fun k h1 h2 _ => by rw [Below.heap_alloc _ _ _ (by omega)]; exact hk k h1 h2) (OIn.sub (fresh_le (Nat.le_refl _) ((Below.refl _ _).alloc (Nat.le_refl _) _)) hx) ho hg hat'
  · exact ((Below.refl B W1).alloc (by omega) _).grown hg (by simp; omega) fun k hk' => (World.ownsRow.lt h.1 k hk').1
  · intro k h1 h2
    rw [hg.block k (by simp; omega) (fun e => h2 e.symm), Below.heap_alloc _ _ _ h1]
  · rcases hat' with ha | ha
    · exact Or.inl ha
    · exact Or.inr (by simp at ha; omega)
/- one more key -/
theorem app_str {W1 : World} {B : Nat} {v : Value} {ss : List ByteArray} (x : ByteArray) (h : SRow W1 B v ss) (hB : B ≤ W1.heap.size) (hn : ss.length + 1 ≤ 8796093022208) :
    ∃ g N cap w2, (Builtin.append_ #[22, 22] 22 #[v, .slice (some ⟨W1.heap.size, 0, none⟩) 1 1]).run Tryz.prog (W1.alloc (.cells #[.string x] 9)) = .ok (.slice (some ⟨g, 0, none⟩) N cap) w2 ∧
      SRow w2 B (.slice (some ⟨g, 0, none⟩) N cap) (ss ++ [x]) ∧ Below B W1 w2 ∧ (∀ k, k < W1.heap.size → v.ownBlock ≠ some k → w2.heap[k]? = W1.heap[k]?) ∧ (v.ownBlock = some g ∨ W1.heap.size ≤ g) := by
  obtain ⟨i0, hi, hz0, hz1, hz2⟩ := info_parts5 info_str
  obtain ⟨g, cap, w2, hr, ho, hg, hat, hlt⟩ := run_append_lies (P := Tryz.prog) (W1.alloc (.cells #[.string x] 9)) 22 22 B 9 i0 _ 1 16 Tryz.underlying22 hi hz0 hz1 hz2 rfl (by decide) v ss.length (ss.map Value.string) (World.ownsRow.alloc h _) ⟨W1.heap.size, 0, none⟩ 1 1 [.string x] rfl
    (fun j u hu => by rw [Go.WideShapes.add_plain, Nat.zero_add, World.cell?_alloc_at _ _ _ _ rfl]; simpa using hu) (strs_one [x]) (by decide) (by unfold maxLen; omega) (by omega) (by simp; omega) (W1.heap.size + 1) (by simp)
  refine ⟨g, _, cap, w2, hr, ?_, ?_, ?_, ?_⟩
  · unfold SRow
    rw [List.map_append, List.length_append]
    exact ho
  · exact ((Below.refl B W1).alloc hB _).grown hg (by simp; omega) fun k hk' => (World.ownsRow.lt h k hk').1
  · intro k h1 h2
    rw [hg.block k (by simp; omega) (fun e => h2 e.symm), Below.heap_alloc _ _ _ h1]
  · rcases hat with ha | ha
    · exact Or.inl ha
    · exact Or.inr (by rw [ha]; omega)
theorem SRow.keep {w w' : World} {B : Nat} {v : Value} {ss : List ByteArray} (h : SRow w B v ss) (hk : ∀ g, v.ownBlock = some g → B ≤ g → g < w.heap.size → w'.heap[g]? = w.heap[g]?) : SRow w' B v ss := by
  obtain ⟨h1, h2 | ⟨g, cap, cur, hvv, hg, hh, hr⟩⟩ := h
  · exact ⟨h1, Or.inl h2⟩
  · have hlt : g < w.heap.size := by
      rcases Nat.lt_or_ge g w.heap.size with h | h
      · exact h
      · rw [Array.getElem?_eq_none h] at hh; simp at hh
    exact ⟨h1, Or.inr ⟨g, cap, cur, hvv, hg, by rw [hk g (by rw [hvv]; simp [Value.ownBlock]) hg hlt]; exact hh, hr⟩⟩
/- both rows of a dictionary that is being read -/
structure DRow (w : World) (B : Nat) (vk vr : Value) (ss : List ByteArray) (l : List Ent) : Prop where
  keys : SRow w B vk ss
  items : ORowE (OwnOf vk) w B vr l
  apart : ∀ g, vr.ownBlock = some g → ¬ OwnOf vk g
theorem DRow.nil (w : World) (B : Nat) : DRow w B (.slice none 0 0) (.slice none 0 0) [] [] := ⟨World.ownsRow_nil _ _ _ _, ORowE.nil _ _ _, fun g h => by simp [Value.ownBlock] at h⟩
theorem DRow.kept {w w' : World} {B : Nat} {vk vr : Value} {ss : List ByteArray} {l : List Ent} (h : DRow w B vk vr ss l) (hs : w.heap.size ≤ w'.heap.size) (hk : ∀ k, B ≤ k → k < w.heap.size → w'.heap[k]? = w.heap[k]?) : DRow w' B vk vr ss l :=
  ⟨h.keys.keep fun g _ h2 h3 => hk g h2 h3, h.items.keep hs (fun k h1 h2 _ => hk k h1 h2) (fun _ _ e => e) h.apart, h.apart⟩
theorem DRow.key {w : World} {B : Nat} {vk vr : Value} {ss : List ByteArray} {l : List Ent} (x : ByteArray) (h : DRow w B vk vr ss l) (hB : B ≤ w.heap.size) (hn : ss.length + 1 ≤ 8796093022208) :
    ∃ g N cap w2, (Builtin.append_ #[22, 22] 22 #[vk, .slice (some ⟨w.heap.size, 0, none⟩) 1 1]).run Tryz.prog (w.alloc (.cells #[.string x] 9)) = .ok (.slice (some ⟨g, 0, none⟩) N cap) w2 ∧ DRow w2 B (.slice (some ⟨g, 0, none⟩) N cap) vr (ss ++ [x]) l ∧ Below B w w2 := by
  obtain ⟨g, N, cap, w2, h1, h2, h3, h4, h5⟩ := app_str x h.keys hB hn
  have hEE : ∀ k, k < w.heap.size → OwnOf (.slice (some ⟨g, 0, none⟩) N cap) k → OwnOf vk k := fun k hk e => by
    have e : g = k := by simpa [OwnOf, Value.ownBlock] using e
    subst e
    rcases h5 with h | h
    · exact h
    · omega
  refine ⟨g, N, cap, w2, h1, ⟨h2, h.items.keep h3.size (fun k _ h7 h8 => h4 k h7 h8) hEE h.apart, fun g' hg' e => ?_⟩, h3⟩
  exact h.apart g' hg' (hEE g' (World.ownsRow.lt h.items.1 g' hg').2 e)
theorem DRow.item {W W1 : World} {B : Nat} {vk vr : Value} {ss : List ByteArray} {l : List Ent} (x : Ent) (h : DRow W B vk vr ss l) (hs : W.heap.size ≤ W1.heap.size) (hk : ∀ k, B ≤ k → k < W.heap.size → W1.heap[k]? = W.heap[k]?) (hB : B ≤ W.heap.size) (hx : x.lies (fresh W.heap.size W1)) (hn : l.length + 1 ≤ 1599289640401) :
    ∃ g N cap w2, (Builtin.append_ #[23, 23] 23 #[vr, .slice (some ⟨W1.heap.size, 0, none⟩) 1 1]).run Tryz.prog (W1.alloc (.cells x.cells.toArray 25)) = .ok (.slice (some ⟨g, 0, none⟩) N cap) w2 ∧ DRow w2 B vk (.slice (some ⟨g, 0, none⟩) N cap) ss (l ++ [x]) ∧ Below B W1 w2 := by
  have hEl : ∀ k, OwnOf vk k → k < W.heap.size := fun k e => (World.ownsRow.lt h.keys k e).2
  obtain ⟨g, N, cap, w2, h1, h2, h3, h4, h5⟩ := app_objE x h.items hs hEl hk hB hx hn
  refine ⟨g, N, cap, w2, h1, ⟨h.keys.keep fun g' e h7 h8 => ?_, h2, fun g' hg' e => ?_⟩, h3⟩
  · rw [h4 g' (Nat.lt_of_lt_of_le h8 hs) (fun e2 => h.apart g' e2 e), hk g' h7 h8]
  · have e' : g = g' := by simpa [Value.ownBlock] using hg'
    subst e'
    rcases h5 with hh | hh
    · exact h.apart g hh e
    · have := hEl g e; omega
theorem DRow.oin {w w' : World} {B : Nat} {vk vr : Value} {ss : List ByteArray} {l : List Ent} (h : DRow w B vk vr ss l) (hl : l.length ≤ 1599289640401) (hsl : ss.length ≤ 8796093022208) (hss : ∀ s ∈ ss, s.size ≤ 9223372036854775807) (hs : Sub (fresh B w) w') :
    ∃ ka kc ia ic, vk = .slice ka ss.length kc ∧ vr = .slice ia (flen (forest l)) ic ∧ OIn w' (kp ss) (forest l) ka kc ia ic := by
  obtain ⟨ka, kc, hvk, hst, hk1, hk2⟩ := h.keys.strs
  obtain ⟨ia, ic, hv, i1, i2, i3⟩ := h.items.row.items
  refine ⟨ka, kc, ia, ic, hvk, hv, ⟨⟨by simp, by simp⟩, ⟨by simp, by simp⟩, by simp [ByteArray.size], hss⟩, ⟨hst.sub hs, ⟨hk1, hsl⟩, hk2⟩, ⟨i1, by rw [forest_len]; exact hl⟩, i2, ?_⟩
  rcases i3 with h | ⟨b', off', e, hl, hR⟩
  · exact Or.inl h
  · exact Or.inr ⟨b', off', e, Nat.lt_of_lt_of_le hl hs.size, hR.sub hs⟩
end Go.Proofs.YtalmcdbdibpgkaaGreatDoor
/-
  What the landed dict answers, by what object answers.
-/
namespace Go.Proofs.YtalmcdbdibpgkaaGreatDoor
open Go.RowKit Go.Deep
set_option linter.unusedVariables false

def DiR (W0 : World) (b : Nat) (w : World) (s : ByteArray) (d : Nat) (n : Int) (R : Option (List ByteArray × BT Pay × Nat)) (e : Ending) (w' : World) : Prop := match R with
  | some (ks, T, q) => if 0 ≤ goodF T d n then (∃ ka kc ia ic, e = .returned (ov (kp ks) ka kc ia (flen T) ic) ∧ OIn (fresh w.heap.size w') (kp ks) T ka kc ia ic) ∧ But b w w' ∧ RC W0 b w' s q (65536 - goodF T d n) else e = thrown ∧ But b w w'
  | none => e = thrown ∧ But b w w'
abbrev dbox (vk vr : Value) : Array Value := #[.int .i64 7, .bool false, .int .i64 0, .string ⟨#[]⟩, vk, vr]
theorem dict_fin {R : Ending → World → Prop} {a : Act} {w : World} {B : Nat} {v0 v1 v2 v3 v4 v5 : Value} {t : TypeId} (hk : Blk w B #[v0, v1, v2, v3, v4, v5] t) (h2 : a.tmps[4]?.getD undef = .pointer (some ⟨B, 0, none⟩)) (hd : a.defers = []) (h : R (.returned (.agg #[v0, v1, v2, v3, v4, v5])) w) :
    bodyPost Tryz.prog Tryz.f43 R Exit.ret a w := by
  obtain ⟨⟨f0, f1, f2, f3, f4, f5⟩, _⟩ := hk.six
  refine bodyPost_ret (v := .agg #[v0, v1, v2, v3, v4, v5]) ?_ hd h
  simp [results, Tryz.results43, go_sem, f0, f1, f2, f3, f4, f5, h2]
theorem di_bad {d : Nat} {n m : Int} {acc : List Ent} {ss : List ByteArray} {t : ByteArray} {p : Pay} {T : BT Pay} {X : Option (List ByteArray × BT Pay × Nat)} (hn : 0 ≤ n) (hm : goodF (forest acc) d n = m) (h0 : 0 ≤ m) (hb : ¬ 0 ≤ goodV p T d m) (R : Option (List ByteArray × BT Pay × Nat))
    (hR : R = (match X with | none => none | some (ks, N, e) => some (t :: ks, BT.node 0 0 p T N, e)).map fun (q : List ByteArray × BT Pay × Nat) => (ss ++ q.1, joinF acc q.2.1, q.2.2)) {W0 : World} {b : Nat} {w w' : World} {s : ByteArray} (h : But b w w') : DiR W0 b w s d n R thrown w' := by
  subst hR
  cases X with
  | none => exact ⟨rfl, h⟩
  | some q =>
    obtain ⟨ks, N, e⟩ := q
    simp only [Option.map_some]
    unfold DiR
    simp only
    have : goodF (joinF acc (BT.node 0 0 p T N)) d n = -1 := by
      rw [goodF_join _ acc _ n hn, hm, if_neg (by omega), goodF_node, if_pos (by omega)]
    rw [this, if_neg (by omega)]
    first | exact ⟨rfl, h⟩ | exact ⟨trivial, h⟩
theorem dict_deep (b : Nat) (d : Int) (w : World) (hd : 32 < d) : Calls Tryz.prog 43 #[.pointer (some ⟨b, 0, none⟩), .int .i64 d] w fun e w' => e = thrown ∧ But b w w' := by
  have CM := hide must_f
  have hdd : decide (d ≤ 32) = false := by rw [decide_eq_false_iff_not]; omega
  clear hd
  go_enter Tryz.func43, Tryz.ntmps43
  go_wp2_with (go_at_call 40; refine (CM.out _).mono ?_; rintro e wy ⟨rfl, rfl⟩)
  exact ⟨rfl, rfl, But.of_below ((Below.refl _ _).alloc (Nat.le_refl _) _)⟩
set_option maxRecDepth 8000 in
set_option maxHeartbeats 2000000 in
theorem dict_rc (W0 : World) (hgl : Glo5 W0) (M : Nat) (ih : ∀ g, g < M → ObC W0 g) (f : Nat) (hf : f ≤ M) (b : Nat) (s : ByteArray) (a d : Nat) (n : Int) (w : World) (h : RC W0 b w s a (65536 - n)) (hs : s.size ≤ 16777216) (hd : d ≤ 32) (hn0 : 0 ≤ n) (hn1 : n ≤ 65536) (hfu : 3 * (s.size - a) + 2 ≤ f) :
    Calls Tryz.prog 43 #[.pointer (some ⟨b, 0, none⟩), .int .i64 (d : Int)] w (DiR W0 b w s d n ((rec5 s.data.toList f).di a d)) := by
  obtain ⟨R, hR⟩ : ∃ R, (rec5 s.data.toList f).di a d = R := ⟨_, rfl⟩
  rw [hR]
  have IH := hide ih
  have HR0 := hide hR
  have HF := hide hf
  have HFU := hide hfu
  have HS := hide hs
  have hlt := h.lt
  have HN := hide (show 0 ≤ n ∧ n ≤ 65536 from ⟨hn0, hn1⟩)
  have HD := hide hd
  have CM := hide must_t
  have CF := hide must_f
  have hdd : decide ((d : Int) ≤ 32) = true := by simp; omega
  have hd0 : (0 : Int) ≤ (d : Int) := by omega
  have hd1 : (d : Int) ≤ 32 := by omega
  have hb1 : Below w.heap.size w ((w.alloc (.cells zobj 25)).alloc (.cells (dbox (.slice none 0 0) (.slice none 0 0)) 25)) := ((Below.refl _ _).alloc (Nat.le_refl _) _).alloc (by simp) _
  have HB1 := hide (But.of_below (b := b) hb1)
  have HR1 := hide (h.below hb1)
  have HKa : Hid (Blk ((w.alloc (.cells zobj 25)).alloc (.cells (dbox (.slice none 0 0) (.slice none 0 0)) 25)) w.heap.size zobj 25) := hide ((Blk.new w _ _).below ((Below.refl _ _).alloc (Nat.le_refl _) _))
  have HKo : Hid (Blk ((w.alloc (.cells zobj 25)).alloc (.cells (dbox (.slice none 0 0) (.slice none 0 0)) 25)) (w.heap.size + 1) (dbox (.slice none 0 0) (.slice none 0 0)) 25) := hide (by
    have := Blk.new (w.alloc (.cells zobj 25)) (dbox (.slice none 0 0) (.slice none 0 0)) 25
    rwa [show (w.alloc (.cells zobj 25)).heap.size = w.heap.size + 1 by simp] at this)
  have CP := hide (fun a l w' (h' : RC W0 b w' s a l) => pass_rc W0 b s a l w' h' hs)
  have CT := hide (fun a l w' (h' : RC W0 b w' s a l) t ht => take_rc W0 b s ⟨#[62, 62]⟩ a l w' h' hs (by decide) t ht)
  have CS := hide (fun a l w' (h' : RC W0 b w' s a l) t ht => take_rc W0 b s ⟨#[47]⟩ a l w' h' hs (by decide) t ht)
  have CN := hide (fun a l w' (h' : RC W0 b w' s a l) R hR => name_rc W0 hgl b s a l w' h' hs R hR)
  have hwr : IntKind.i64.wrap ((d : Int) + 1) = (d : Int) + 1 := by rw [IntKind.wrap_i64]; omega
  clear h ih hb1 hR hf hfu hs hn0 hn1 hd hgl
  go_enter Tryz.func43, Tryz.ntmps43
  go_wp2_with fail
  refine (CM.out _).mono ?_
  rintro e wm ⟨rfl, hwm⟩
  subst hwm
  go_wp2_with fail
  refine (CP.out _ _ _ HR1.out).mono ?_
  rintro e w2 ⟨rfl, h1, h2⟩
  have HB2 := hide (HB1.out.trans h1)
  have HR2 := hide h2
  have HKa := hide (HKa.out.but h1 (by omega))
  have HKo := hide (HKo.out.but h1 (by omega))
  have hz2 : w.heap.size + 1 + 1 ≤ w2.heap.size := by have := h1.size; simp at this; omega
  clear h1 h2 HB1 HR1
  go_wp2_with fail
  go_loopg [12] f (fun g _ wr => ∃ (k fu : Nat) (ss : List ByteArray) (acc : List Ent) (m : Int) (vk vr : Value), Hid (g = fu ∧ 3 * (s.size - k) + 2 ≤ fu ∧ fu ≤ M ∧ R = ((rec5 s.data.toList fu).di k d).map (fun q => (ss ++ q.1, joinF acc q.2.1, q.2.2)) ∧ goodF (forest acc) d n = m ∧ 0 ≤ m ∧ m ≤ 65536 ∧ RC W0 b wr s (blanksV s.data.toList k) (65536 - m) ∧ But b w wr ∧
    Blk wr w.heap.size zobj 25 ∧ Blk wr (w.heap.size + 1) (dbox vk vr) 25 ∧ DRow wr (w.heap.size + 1 + 1) vk vr ss acc ∧ w.heap.size + 1 + 1 ≤ wr.heap.size ∧ ss.length = acc.length ∧ (∀ x ∈ ss, x.size ≤ 9223372036854775807)))
  case atStart => exact ⟨a, f, [], [], n, .slice none 0 0, .slice none 0 0, hide ⟨rfl, HFU.out, HF.out, by rw [HR0.out]; cases R <;> rfl, rfl, HN.out.1, HN.out.2, HR2.out, HB2.out, HKa.out, HKo.out, DRow.nil _ _, hz2, rfl, by simp⟩⟩
  case round =>
    clear HKa HKo HB2 HR2 hz2 HR0 HFU HF
    obtain ⟨k, fu, ss, acc, m, vk, vr, HV⟩ := hrel
    obtain ⟨hg, hfu, hfm, hR, hm, hm0, hm1, hrc, hbut, hka, hko, hdr, hz, hsl, hss⟩ := HV.out
    clear HV
    obtain ⟨fu, rfl⟩ : ∃ f', fu = f' + 1 := ⟨fu - 1, by omega⟩
    rw [di_succ] at hR
    unfold diS at hR
    have hkA := blanks_ge s.data.toList k
    have hnn := HN.out
    have hal : acc.length ≤ 65536 := by
      have := goodF_ge (forest acc) d n hnn.1 (by omega)
      rw [forest_len] at this
      omega
    generalize blanksV s.data.toList k = A at hR hrc hkA
    have HBU := hide hbut
    have HKa := hide hka
    have HKo := hide hko
    have HDR := hide hdr
    have HG := hide hg
    have HSS := hide hss
    cases ht : Lib.hasPrefix (s.data.toList.drop A) [62, 62]
    case true =>
      rw [ht, if_pos rfl] at hR
      simp only [Option.map_some, joinF_nil, List.append_nil] at hR
      subst hR
      have CT1 := hide (CT.out A _ wr hrc true ht)
      have HM := hide hm
      obtain ⟨ka, kc, hvk, _⟩ := hdr.keys.strs
      obtain ⟨ia, ic, hv, _⟩ := hdr.items.row.items
      subst hv
      subst hvk
      have HSL : Hid (ss.length ≤ 65536) := hide (by omega)
      clear hsl
      generalize hL : flen (forest acc) = LN at HDR HKo
      generalize hL2 : ss.length = LK at HDR HKo
      have HLN := hide hL
      have HLK := hide hL2
      clear hbut hka hko hdr hrc hg hfu hfm ht hL hL2 hss
      go_wp2_with fail
      refine CT1.out.mono ?_
      rintro e w7 ⟨rfl, h1, h2⟩
      have HB7 := hide (HBU.out.trans h1)
      have HR7 := hide h2
      have hko7 := HKo.out.but h1 (by omega)
      have hka7 := HKa.out.but h1 (by omega)
      have HO7 := hide (HDR.out.kept h1.size fun k h3 h4 => h1.block k h4 (by omega))
      have HKa7 := hide hka7
      obtain ⟨⟨r0, r1, r2, r3, r4, r5⟩, ⟨y0, y1, y2, y3, y4, y5⟩⟩ := hka7.six
      obtain ⟨⟨q0, q1, q2, q3, q4, q5⟩, _⟩ := hko7.six
      clear h1 h2 hko7 hka7
      go_wp2_with fail
      have hsub : Sub (fresh (w.heap.size + 1 + 1) w7) (fresh w.heap.size (st6 w7 w.heap.size (.int .i64 7) (.bool false) (.int .i64 0) (.string ⟨#[]⟩) (.slice ka LK kc) (.slice ia LN ic))) := only_sub (Nat.le_of_eq (st6_size _ _ _ _ _ _ _ _).symm) fun k h1 _ => ⟨by omega, st6_block (w := w7) (b := w.heap.size) (k := k) (by omega) _ _ _ _ _ _⟩
      obtain ⟨ka', kc', ia', ic', hv1, hv2, hin⟩ := HO7.out.oin (by omega) (by have := HSL.out; omega) HSS.out hsub
      simp only [Value.slice.injEq] at hv1 hv2
      obtain ⟨rfl, hv3, rfl⟩ := hv1
      obtain ⟨rfl, hv4, rfl⟩ := hv2
      subst hv3
      subst hv4
      have hgood : DiR W0 b w s d n (some (ss, forest acc, A + 2)) (.returned (.agg #[.int .i64 7, .bool false, .int .i64 0, .string ⟨#[]⟩, .slice ka ss.length kc, .slice ia (flen (forest acc)) ic])) (st6 w7 w.heap.size (.int .i64 7) (.bool false) (.int .i64 0) (.string ⟨#[]⟩) (.slice ka ss.length kc) (.slice ia (flen (forest acc)) ic)) := by
        unfold DiR
        simp only
        rw [HM.out, if_pos hm0]
        have hbb := st6_but HB7.out (Nat.le_refl _) (.int .i64 7) (.bool false) (.int .i64 0) (.string ⟨#[]⟩) (.slice ka ss.length kc) (.slice ia (flen (forest acc)) ic)
        exact ⟨⟨ka, kc, ia, ic, rfl, hin⟩, hbb, ⟨st6_rat HR7.out.rat (by omega) _ _ _ _ _ _, (st6_below (Below.refl w.heap.size w7) (Nat.le_refl _) _ _ _ _ _ _ |> fun hx => HR7.out.low.trans (hx.mono (by have := HR7.out.hb; omega))), HR7.out.hb, HR7.out.le⟩⟩
      refine dict_fin (st6_blk HKa7.out (.int .i64 7) (.bool false) (.int .i64 0) (.string ⟨#[]⟩) (.slice ka ss.length kc) (.slice ia (flen (forest acc)) ic)) (by rfl) (by rfl) ?_
      exact hgood
    case false =>
      rw [ht, if_neg (by simp)] at hR
      have CT1 := hide (CT.out A _ wr hrc false ht)
      have HRC := hide hrc
      cases ht2 : Lib.hasPrefix (s.data.toList.drop A) [47]
      case false =>
        rw [ht2, if_neg (by simp)] at hR
        simp only [Option.map_none] at hR
        subst hR
        have CS1 := hide (fun w' (h' : RC W0 b w' s A (65536 - m)) => CS.out A _ w' h' false ht2)
        clear hbut hka hko hdr hrc hg hfu hfm ht ht2 hss
        go_wp2_with fail
        refine CT1.out.mono ?_
        rintro e w3 ⟨rfl, h1, h2⟩
        have H1 := hide h1
        have C2 := hide (CS1.out w3 h2)
        clear h1 h2 CT1 CS1
        go_wp2_with fail
        refine C2.out.mono ?_
        rintro e w4 ⟨rfl, h3, h4⟩
        have H3 := hide h3
        clear h3 h4 C2
        go_wp2_with fail
        refine (CF.out _).mono ?_
        rintro e w5 ⟨rfl, rfl⟩
        exact ⟨rfl, rfl, (HBU.out.trans H1.out).trans H3.out⟩
      case true =>
        rw [ht2, if_pos rfl] at hR
        have CS1 := hide (fun w' (h' : RC W0 b w' s A (65536 - m)) => CS.out A _ w' h' true ht2)
        have CNM := hide (fun w' (h' : RC W0 b w' s (A + 1) (65536 - m)) => CN.out (A + 1) _ w' h' _ rfl)
        cases hnm : nmV (s.data.toList.drop (A + 1)) (A + 1) with
        | none =>
          rw [hnm] at hR CNM
          simp only [Option.map_none] at hR
          subst hR
          unfold TxR at CNM
          simp only at CNM
          clear hbut hka hko hdr hrc hg hfu hfm ht ht2 hss hnm
          go_wp2_with fail
          refine CT1.out.mono ?_
          rintro e w3 ⟨rfl, h1, h2⟩
          have H1 := hide h1
          have C2 := hide (CS1.out w3 h2)
          clear h1 h2 CT1 CS1
          go_wp2_with fail
          refine C2.out.mono ?_
          rintro e w5 ⟨rfl, h3, h4⟩
          have H3 := hide (h3)
          have HR4 : Hid (RC W0 b w5 s (A + 1) (65536 - m)) := hide h4
          have e4 : w5.cell? ⟨w.heap.size + 1, 4, none⟩ = some vk := ((HKo.out.but H1.out (by omega)).but h3 (by omega)).cell 4
          clear h3 h4 C2
          go_wp2_with fail
          refine (CM.out _).mono ?_
          rintro e wm6 ⟨rfl, hw6⟩
          replace hw6 := hw6.symm
          subst hw6
          go_wp2_with fail
          go_region_dies
          all_goals
            go_at_call 47
            refine (CNM.out _ (HR4.out.below (Below.refl _ _).drew)).mono ?_
            rintro e wy ⟨rfl, hy⟩
            exact ⟨rfl, rfl, ((HBU.out.trans H1.out).trans H3.out).trans ⟨hy.os, hy.tape, hy.output, hy.size, hy.block⟩⟩
        | some r =>
          obtain ⟨t, j⟩ := r
          have hjl := nR_le _ _ _ _ _ _ (Nat.le_refl _) hnm
          have htl : t.length ≤ 16777216 := by
            have h1 := HS.out
            have h2 := hjl.2.1
            rw [List.length_drop, ← Lib.size_eq] at h2
            have h3 := hjl.2.2
            simp only [List.length_nil] at h3
            omega
          have hts : (⟨t.toArray⟩ : ByteArray).size ≤ 9223372036854775807 := by rw [show (⟨t.toArray⟩ : ByteArray).size = t.length by simp [ByteArray.size]]; omega
          rw [hnm] at hR CNM
          simp only at hR
          unfold TxR at CNM
          simp only at CNM
          generalize (⟨t.toArray⟩ : ByteArray) = key at hR CNM hts
          have hAj : A < j := by omega
          have AK : Hid (∀ y, But b wr y → ∃ g N cap w2, (Builtin.append_ #[22, 22] 22 #[vk, .slice (some ⟨y.heap.size, 0, none⟩) 1 1]).run Tryz.prog (y.alloc (.cells #[.string key] 9)) = .ok (.slice (some ⟨g, 0, none⟩) N cap) w2 ∧ DRow w2 (w.heap.size + 1 + 1) (.slice (some ⟨g, 0, none⟩) N cap) vr (ss ++ [key]) acc ∧ Below (w.heap.size + 1 + 1) y w2) := hide (fun y hy => (hdr.kept hy.size fun k h1 h2 => hy.block k h2 (by omega)).key key (Nat.le_trans hz hy.size) (by omega))
          have hszw : w.heap.size + 1 < wr.heap.size := by omega
          have COB := hide (fun w' (h' : RC W0 b w' s j (65536 - m)) => IH.out fu (by omega) b s j d m w' h' HS.out HD.out hm0 hm1 (by omega))
          have HAFTER := hide (show 3 * (s.size - k) + 2 ≤ fu + 1 ∧ k < j ∧ fu ≤ M from ⟨hfu, by omega, by omega⟩)
          obtain ⟨OB, hob⟩ : ∃ OB, (rec5 s.data.toList fu).ob j d = OB := ⟨_, rfl⟩
          rw [hob] at hR COB
          have HOB := hide hob
          have HRR := hide hR
          have HM := hide hm
          have HTS := hide hts
          have HSL := hide hsl
          clear hsl
          clear hbut hka hko hdr hrc hg hfu hfm ht ht2 hss hnm hob hR hm hts htl hjl
          go_wp2_with fail
          refine CT1.out.mono ?_
          rintro e w3 ⟨rfl, h1, h2⟩
          have H1 := hide h1
          have C2 := hide (CS1.out w3 h2)
          clear h1 h2 CT1 CS1
          go_wp2_with fail
          refine C2.out.mono ?_
          rintro e w5 ⟨rfl, h3, h4⟩
          have H3 := hide (H1.out.trans h3)
          have HR4 : Hid (RC W0 b w5 s (A + 1) (65536 - m)) := hide h4
          have e4 : w5.cell? ⟨w.heap.size + 1, 4, none⟩ = some vk := ((HKo.out.but H1.out (by omega)).but h3 (by omega)).cell 4
          clear h3 h4 C2
          go_wp2_with fail
          refine (CM.out _).mono ?_
          rintro e wm6 ⟨rfl, hw6⟩
          replace hw6 := hw6.symm
          subst hw6
          go_wp2_with fail
          rename_i k0
          have HKK := hide k0
          clear k0
          have hszl : w.heap.size + 1 < w5.heap.size := Nat.lt_of_lt_of_le hszw H3.out.size
          go_region_law ((first | (go_simp; go_at_call 47; refine (CNM.out _ ?_).mono ?_; exact HR4.out.below (Below.refl _ _).drew; rintro e wy ⟨rfl, h1, h2⟩; have hyb : But b wr wy := H3.out.trans ⟨h1.os, h1.tape, h1.output, h1.size, h1.block⟩; obtain ⟨g, N, cap, w6, hr, ho, hb⟩ := AK.out wy hyb; have HR := hide hr; have HY := hide hyb; have HRy := hide h2; have HO4 := hide ho; have HB4 := hide hb; have q4 : wy.cell? ⟨w.heap.size + 1, 4, none⟩ = some vk := (HKo.out.but hyb (by omega)).cell 4; have hszy : w.heap.size + 1 < wy.heap.size := Nat.lt_of_lt_of_le hszw hyb.size; have HQ4 : Hid (w6.cell? ⟨w.heap.size + 1, 4, none⟩ = some vk) := hide (((HKo.out.but hyb (by omega)).kept hb (by omega)).cell 4); have HZ4 := hide (((HKo.out.but hyb (by omega)).kept hb (by omega)).frozen 4); clear h1 h2 hyb hr ho hb) | (refine step_append_run _ (by rfl) _ _ _ _ rfl _ _ (by rfl) (by rfl) _ _ HR.out ?_; clear q4; have q4 := HQ4.out; have z4 := HZ4.out)))
          all_goals
            have hko4 : Blk (w6.setCell ⟨w.heap.size + 1, 4, none⟩ (.slice (some ⟨g, 0, none⟩) N cap)) (w.heap.size + 1) (dbox (.slice (some ⟨g, 0, none⟩) N cap) vr) 25 := ((HKo.out.but HY.out (by omega)).kept HB4.out (by omega)).set 4 (.slice (some ⟨g, 0, none⟩) N cap)
            have hka4 := ((HKa.out.but HY.out (by omega)).kept HB4.out (by omega)).other (b' := w.heap.size + 1) (by omega) 4 (.slice (some ⟨g, 0, none⟩) N cap)
            have hr4 : RAt (w6.setCell ⟨w.heap.size + 1, 4, none⟩ (.slice (some ⟨g, 0, none⟩) N cap)) b s j (65536 - m) := Blk.other (Blk.kept HRy.out.rat HB4.out (by omega)) (b' := w.heap.size + 1) (by omega) 4 (.slice (some ⟨g, 0, none⟩) N cap)
            have hb4 : But b w (w6.setCell ⟨w.heap.size + 1, 4, none⟩ (.slice (some ⟨g, 0, none⟩) N cap)) := ((HBU.out.trans HY.out).more HB4.out (by omega)).more ((Below.refl w.heap.size w6).setCell (p := ⟨w.heap.size + 1, 4, none⟩) (by simp) (.slice (some ⟨g, 0, none⟩) N cap)) (Nat.le_refl _)
            have ho4 := HO4.out.kept (w' := w6.setCell ⟨w.heap.size + 1, 4, none⟩ (.slice (some ⟨g, 0, none⟩) N cap)) (by simp [World.setCell]) fun k h1 h2 => Below.heap_setCell _ _ _ _ (by simp; omega)
            have hz4 : w.heap.size + 1 + 1 ≤ (w6.setCell ⟨w.heap.size + 1, 4, none⟩ (.slice (some ⟨g, 0, none⟩) N cap)).heap.size := by have h1 := HY.out.size; have h2 := HB4.out.size; simp [World.setCell]; omega
            have hrc4 : RC W0 b (w6.setCell ⟨w.heap.size + 1, 4, none⟩ (.slice (some ⟨g, 0, none⟩) N cap)) s j (65536 - m) := ⟨hr4, (HRy.out.low.trans (HB4.out.mono (by have := HRy.out.hb; omega))).setCell (p := ⟨w.heap.size + 1, 4, none⟩) (by have := HRy.out.hb; simp; omega) (.slice (some ⟨g, 0, none⟩) N cap), HRy.out.hb, HRy.out.le⟩
            have HKo7 := hide hko4
            have HKa7 := hide hka4
            have HR7 := hide hrc4
            have HB7 := hide hb4
            have HO7 := hide ho4
            clear hko4 hka4 hr4 hb4 ho4 hrc4 q4 z4 e4
            refine HKK.out _ _ ?_
            generalize w6.setCell ⟨w.heap.size + 1, 4, none⟩ (.slice (some ⟨g, 0, none⟩) N cap) = w7 at HKo7 HKa7 HR7 HB7 HO7 hz4 ⊢
            have e5 : w7.cell? ⟨w.heap.size + 1, 5, none⟩ = some vr := HKo7.out.cell 5
            have hsz7 : w.heap.size + 1 < w7.heap.size := by omega
            clear HKK
            rcases OB with _ | ⟨p, T, q⟩
            · have hR := HRR.out
              simp only [Option.map_none] at hR
              subst hR
              unfold ObR at COB
              simp only at COB
              go_wp2_with fail
              go_region_dies
              all_goals
                go_at_call 24
                refine (COB.out _ (HR7.out.below (Below.refl _ _).drew)).mono ?_
                rintro e wz ⟨rfl, hy⟩
                exact ⟨rfl, rfl, HB7.out.trans ⟨hy.os, hy.tape, hy.output, hy.size, hy.block⟩⟩
            · unfold ObR at COB
              simp only at COB
              by_cases hgd : 0 ≤ goodV p T d m
              case neg =>
                simp only [if_neg hgd] at COB
                have BAD := hide (fun w' (hb : But b w w') => di_bad (W0 := W0) (s := s) hnn.1 HM.out hm0 hgd R HRR.out hb)
                go_wp2_with fail
                go_region_dies
                all_goals
                  go_at_call 24
                  refine (COB.out _ (HR7.out.below (Below.refl _ _).drew)).mono ?_
                  rintro e wz ⟨rfl, hy⟩
                  exact ⟨rfl, BAD.out _ (HB7.out.trans ⟨hy.os, hy.tape, hy.output, hy.size, hy.block⟩)⟩
              case pos =>
                simp only [if_pos hgd] at COB
                have hgl := goodV_le p T d m hm0 hm1
                have hjq : j < q := (rec_lt s.data.toList fu).1 _ _ _ _ _ HOB.out
                have HRN : Hid (∀ ka kc ia ic, R = ((rec5 s.data.toList fu).di q d).map (fun x => ((ss ++ [key]) ++ x.1, joinF (acc ++ [⟨0, 0, p, T, ka, kc, ia, ic⟩]) x.2.1, x.2.2))) := hide (fun ka kc ia ic => by
                  have hr := HRR.out
                  simp only at hr
                  rw [hr, show (fun x : List ByteArray × BT Pay × Nat => ((ss ++ [key]) ++ x.1, joinF (acc ++ [⟨0, 0, p, T, ka, kc, ia, ic⟩]) x.2.1, x.2.2)) = fun x => (ss ++ (key :: x.1), joinF acc (.node 0 0 p T x.2.1), x.2.2) from funext fun x => by rw [joinF_snoc, List.append_assoc]; rfl]
                  cases (rec5 s.data.toList fu).di q d with
                  | none => rfl
                  | some y => rfl)
                have HGS : Hid (∀ ka kc ia ic, goodF (forest (acc ++ [⟨0, 0, p, T, ka, kc, ia, ic⟩])) d n = goodV p T d m) := hide (fun ka kc ia ic => by rw [goodF_snoc _ acc _ n m hnn.1 HM.out hm0, if_neg (by simp only; omega)])
                obtain ⟨m', hm'⟩ : ∃ m', goodV p T d m = m' := ⟨_, rfl⟩
                rw [hm'] at COB hgd hgl HGS
                have AP : Hid (∀ (x : Ent) y, But b w7 y → x.lies (fresh w7.heap.size y) → ∃ g2 N2 cap2 w2, (Builtin.append_ #[23, 23] 23 #[vr, .slice (some ⟨y.heap.size, 0, none⟩) 1 1]).run Tryz.prog (y.alloc (.cells x.cells.toArray 25)) = .ok (.slice (some ⟨g2, 0, none⟩) N2 cap2) w2 ∧ DRow w2 (w.heap.size + 1 + 1) (.slice (some ⟨g, 0, none⟩) N cap) (.slice (some ⟨g2, 0, none⟩) N2 cap2) (ss ++ [key]) (acc ++ [x]) ∧ Below (w.heap.size + 1 + 1) y w2) := hide (fun x y hy hx => HO7.out.item x hy.size (fun k h1 h2 => hy.block k h2 (by omega)) hz4 hx (by omega))
                clear hm'
                go_wp2_with fail
                first | (rename_i k1; have HK1 := hide k1; clear k1) | (rename_i k1 _; have HK1 := hide k1; clear k1) | (rename_i k1 _ _; have HK1 := hide k1; clear k1) | (rename_i k1 _ _ _; have HK1 := hide k1; clear k1)
                go_region_law ((first | (go_simp; go_at_call 24; refine (COB.out _ ?_).mono ?_; exact HR7.out.below (Below.refl _ _).drew; rintro e wz ⟨⟨ka, kc, ia, ic, rfl, hin⟩, h1, h2⟩; have hzb : But b w7 wz := ⟨h1.os, h1.tape, h1.output, h1.size, h1.block⟩; obtain ⟨g2, N2, cap2, w8, hr, ho, hb⟩ := AP.out ⟨0, 0, p, T, ka, kc, ia, ic⟩ wz hzb hin; have HRx := hide hr; have HZb := hide hzb; have HRz := hide h2; have HO8 := hide ho; have HB8 := hide hb; have q5 : wz.cell? ⟨w.heap.size + 1, 5, none⟩ = some vr := (HKo7.out.but hzb (by omega)).cell 5; have hszz : w.heap.size + 1 < wz.heap.size := Nat.lt_of_lt_of_le hsz7 hzb.size; have HQ5 : Hid (w8.cell? ⟨w.heap.size + 1, 5, none⟩ = some vr) := hide (((HKo7.out.but hzb (by omega)).kept hb (by omega)).cell 5); have HZ5 := hide (((HKo7.out.but hzb (by omega)).kept hb (by omega)).frozen 5); clear h1 h2 hzb hr ho hb hin) | (refine step_append_run _ (by rfl) _ _ _ _ rfl _ _ (by rfl) (by rfl) _ _ HRx.out ?_; clear q5; have q5 := HQ5.out; have z5 := HZ5.out)))
                all_goals
                  have hko8 : Blk (w8.setCell ⟨w.heap.size + 1, 5, none⟩ (.slice (some ⟨g2, 0, none⟩) N2 cap2)) (w.heap.size + 1) (dbox (.slice (some ⟨g, 0, none⟩) N cap) (.slice (some ⟨g2, 0, none⟩) N2 cap2)) 25 := ((HKo7.out.but HZb.out (by omega)).kept HB8.out (by omega)).set 5 (.slice (some ⟨g2, 0, none⟩) N2 cap2)
                  have hka8 := ((HKa7.out.but HZb.out (by omega)).kept HB8.out (by omega)).other (b' := w.heap.size + 1) (by omega) 5 (.slice (some ⟨g2, 0, none⟩) N2 cap2)
                  have hr8 : RAt (w8.setCell ⟨w.heap.size + 1, 5, none⟩ (.slice (some ⟨g2, 0, none⟩) N2 cap2)) b s q (65536 - m') := Blk.other (Blk.kept HRz.out.rat HB8.out (by omega)) (b' := w.heap.size + 1) (by omega) 5 (.slice (some ⟨g2, 0, none⟩) N2 cap2)
                  have hb8 : But b w (w8.setCell ⟨w.heap.size + 1, 5, none⟩ (.slice (some ⟨g2, 0, none⟩) N2 cap2)) := ((HB7.out.trans HZb.out).more HB8.out (by omega)).more ((Below.refl w.heap.size w8).setCell (p := ⟨w.heap.size + 1, 5, none⟩) (by simp) (.slice (some ⟨g2, 0, none⟩) N2 cap2)) (Nat.le_refl _)
                  have ho8 := HO8.out.kept (w' := w8.setCell ⟨w.heap.size + 1, 5, none⟩ (.slice (some ⟨g2, 0, none⟩) N2 cap2)) (by simp [World.setCell]) fun k h1 h2 => Below.heap_setCell _ _ _ _ (by simp; omega)
                  have hz8 : w.heap.size + 1 + 1 ≤ (w8.setCell ⟨w.heap.size + 1, 5, none⟩ (.slice (some ⟨g2, 0, none⟩) N2 cap2)).heap.size := by have h1 := HZb.out.size; have h2 := HB8.out.size; simp [World.setCell]; omega
                  have hrc8 : RC W0 b (w8.setCell ⟨w.heap.size + 1, 5, none⟩ (.slice (some ⟨g2, 0, none⟩) N2 cap2)) s q (65536 - m') := ⟨hr8, (HRz.out.low.trans (HB8.out.mono (by have := HRz.out.hb; omega))).setCell (p := ⟨w.heap.size + 1, 5, none⟩) (by have := HRz.out.hb; simp; omega) (.slice (some ⟨g2, 0, none⟩) N2 cap2), HRz.out.hb, HRz.out.le⟩
                  have HKo8 := hide hko8
                  have HKa8 := hide hka8
                  have HR8 := hide hrc8
                  have HB9 := hide hb8
                  have HO9 := hide ho8
                  clear hko8 hka8 hr8 hb8 ho8 hrc8 q5 z5
                  refine HK1.out _ _ ?_
                  generalize w8.setCell ⟨w.heap.size + 1, 5, none⟩ (.slice (some ⟨g2, 0, none⟩) N2 cap2) = w9 at HKo8 HKa8 HR8 HB9 HO9 hz8 ⊢
                  go_wp2_with fail
                  refine (CP.out q _ _ HR8.out).mono ?_
                  rintro e w10 ⟨rfl, h1, h2⟩
                  have HB10 := hide (HB9.out.trans h1)
                  have HR10 := hide h2
                  have HKo10 := hide (HKo8.out.but h1 (by omega))
                  have HKa10 := hide (HKa8.out.but h1 (by omega))
                  have HO10 := hide (HO9.out.kept h1.size fun k h3 h4 => h1.block k h4 (by omega))
                  have hz10 : w.heap.size + 1 + 1 ≤ w10.heap.size := Nat.le_trans hz8 h1.size
                  clear h1 h2
                  go_wp2_with fail
                  go_roundg fu
                  case measure => have := HG.out; omega
                  case rel => exact ⟨q, fu, ss ++ [key], acc ++ [⟨0, 0, p, T, ka, kc, ia, ic⟩], m', .slice (some ⟨g, 0, none⟩) N cap, .slice (some ⟨g2, 0, none⟩) N2 cap2, hide ⟨rfl, (by have h1 := HAFTER.out; have h2 := HR8.out.le; omega), HAFTER.out.2.2, HRN.out _ _ _ _, HGS.out _ _ _ _, hgd, hgl.2, HR10.out, HB10.out, HKa10.out, HKo10.out, HO10.out, hz10, by have := HSL.out; simp only [List.length_append, List.length_singleton]; omega, fun x hx => by rcases List.mem_append.1 hx with hx | hx; exact HSS.out x hx; rw [List.mem_singleton.1 hx]; exact HTS.out⟩⟩
end Go.Proofs.YtalmcdbdibpgkaaGreatDoor
