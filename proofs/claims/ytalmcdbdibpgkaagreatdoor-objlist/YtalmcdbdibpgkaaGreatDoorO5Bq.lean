/-
  Objects one behind the other, a blank ahead of each, in brackets: read as an array, in plain words.
-/
import Derived.Test.YtalmcdbdibpgkaaGreatDoorO5Bp
namespace Go.Proofs.YtalmcdbdibpgkaaGreatDoor
open Go.RowKit Go.Deep
set_option linter.unusedVariables false

def seqT : List (UInt8 × Ent) → List UInt8
  | [] => []
  | x :: l => x.1 :: (objT x.2.p x.2.T ++ seqT l)
theorem seqT_snoc (x : UInt8 × Ent) : ∀ l, seqT (l ++ [x]) = seqT l ++ (x.1 :: objT x.2.p x.2.T)
  | [] => by simp [seqT]
  | y :: l => by rw [List.cons_append, seqT, seqT, seqT_snoc x l]; simp
abbrev ents (l : List (UInt8 × Ent)) : List Ent := l.map (·.2)
abbrev SeqOk (l : List (UInt8 × Ent)) : Prop := ∀ q ∈ l, isBl q.1.toNat = true ∧ fine q.2.p q.2.T ∧ (objT q.2.p q.2.T).length ≤ 600000
theorem seqT_len : ∀ l, SeqOk l → (seqT l).length ≤ 600001 * l.length
  | [], _ => by simp [seqT]
  | x :: l, h => by
    have h1 := seqT_len l (fun q hq => h q (List.mem_cons_of_mem _ hq))
    have h2 := (h x (by simp)).2.2
    simp only [seqT, List.length_cons, List.length_append]
    omega
theorem gr_seq (r : List UInt8) : ∀ l, SeqOk l → Gr (seqT l ++ (10 :: 93 :: r))
  | [], _ => by
    have := gr_more (b := 10) (bl := []) (c := 93) (u := []) (r := r) (by decide) (by simp [Bls]) (by decide) (by decide) (Or.inl (by decide))
    simpa [seqT] using this
  | x :: l, h => by
    have h1 := gr_seq r l (fun q hq => h q (List.mem_cons_of_mem _ hq))
    have := gr_obj (b := x.1) (bl := []) (h x (by simp)).2.1 (h x (by simp)).1 (by simp [Bls]) h1
    simpa [seqT] using this
theorem li_seq (l r : List UInt8) : ∀ (qs : List (UInt8 × Ent)) (f k nest : Nat), SeqOk qs → l.drop k = seqT qs ++ (10 :: 93 :: r) → (seqT qs).length + 2 ≤ f → (rec5 l f).li k nest = some (strip (forest (ents qs)), k + (seqT qs).length + 2)
  | [], f, k, nest, _, h, hf => by
    obtain ⟨f, rfl⟩ : ∃ g, f = g + 1 := ⟨f - 1, by omega⟩
    have h : l.drop k = [10] ++ (93 :: r) := h
    have e1 : blanksV l k = k + 1 := blanks_on h (by simp [Bls, isBl]) (run_stop _ _ _ (by decide))
    have d1 : l.drop (k + 1) = 93 :: r := drop_on h
    rw [li_succ]
    unfold liS
    rw [e1, pre_eq d1, if_pos rfl]
    rfl
  | (b, x) :: qs, f, k, nest, hok, h, hf => by
    obtain ⟨f, rfl⟩ : ∃ g, f = g + 1 := ⟨f - 1, by omega⟩
    obtain ⟨hb, hfn, _⟩ := hok (b, x) (by simp)
    have hok' : SeqOk qs := fun q hq => hok q (List.mem_cons_of_mem _ hq)
    obtain ⟨c, u, eo, n1, n2, n3, n4, _⟩ := obj_head hfn
    simp only at hb eo hfn
    have h : l.drop k = [b] ++ (objT x.p x.T ++ (seqT qs ++ (10 :: 93 :: r))) := by rw [h, seqT]; simp
    have hs : Bls [b] := by intro d hd; simp at hd; subst hd; exact hb
    have e1 : blanksV l k = k + 1 := blanks_on h hs (by rw [eo]; exact run_stop _ _ _ n1)
    have d1 : l.drop (k + 1) = _ := drop_on h
    have hpos : 0 < (objT x.p x.T).length := by rw [eo]; simp
    simp only [seqT, List.length_cons, List.length_append] at hf
    have hO := ob_on l x.p x.T f (k + 1) nest [] _ (by rw [d1]; rfl) (by simp [Bls]) hfn (gr_seq r qs hok') (by omega)
    have hL := li_seq l r qs f (k + 1 + (objT x.p x.T).length) nest hok' (drop_on d1) (by omega)
    rw [li_succ]
    unfold liS
    rw [e1, pre_ne (l := l.drop (k + 1)) (c := c) (r := u ++ (seqT qs ++ (10 :: 93 :: r))) (by rw [d1, eo]; rfl) n2, hO]
    simp only [Bool.false_eq_true, if_false, List.length_nil, Nat.add_zero]
    rw [hL]
    simp only [Option.some.injEq, Prod.mk.injEq, seqT, List.length_cons, List.length_append, List.map_cons, forest, strip, true_and]
    omega
theorem parse_seq (qs : List (UInt8 × Ent)) (hok : SeqOk qs) (S : ByteArray) (hS : S.data.toList = 91 :: (seqT qs ++ [10, 93])) (hsz : S.size ≤ 16777216) (w : World) (hgl : Glo5 w) :
    Calls Tryz.prog 14 #[.string S, .int .i64 0] w (PaR w (some (arrP, strip (forest (ents qs)), (seqT qs).length + 3))) := by
  have hlen : S.size = (seqT qs).length + 3 := by
    have : S.size = S.data.toList.length := Lib.size_eq S
    rw [this, hS]; simp
  have h := parse_rc S 0 w hgl hsz (Nat.zero_le _)
  have hd : S.data.toList.drop 0 = 91 :: (seqT qs ++ (10 :: 93 :: [])) := by rw [List.drop_zero, hS]
  have e1 : blanksV S.data.toList 0 = 0 := blanks_on (bl := []) hd (by simp [Bls]) (run_stop _ _ _ (by decide))
  have hR : (rec5 S.data.toList (fuelOf S)).ob 0 0 = some (arrP, strip (forest (ents qs)), (seqT qs).length + 3) := by
    unfold fuelOf
    rw [ob_succ]
    unfold obS
    rw [e1, pre_ne hd (by decide), pre_eq hd, li_seq S.data.toList [] qs (3 * S.size + 1) 1 1 hok (drop_one hd) (by omega)]
    simp only [Bool.false_eq_true, if_false, if_true, Option.map_some, Option.some.injEq, Prod.mk.injEq, true_and]
    omega
  rwa [hR] at h
/- how many objects there are -/
theorem good_arr (F : BT Pay) (h : 0 < goodV arrP F 0 0) : (fsize F : Int) < 65536 := by
  have h2 := (goodV_fine (decide_eq_true h)).2
  omega
theorem fsize_snoc (x : Ent) : ∀ l : List Ent, fsize (forest (l ++ [x])) = fsize (forest l) + fsize x.T + 1
  | [] => by simp [forest, fsize]
  | y :: l => by
    have := fsize_snoc x l
    simp only [List.cons_append, forest, fsize]
    omega
theorem count_good {p : Pay} {T : BT Pay} (h : 0 < goodV p T 0 0) : goodV p T 0 0 = fsize T + 1 := by
  have hle := goodV_le p T 0 0 (by omega) (by omega)
  have h1 : 0 ≤ goodF (.node 0 0 p T .nil) 0 0 := by
    rw [goodF_node, if_neg (by omega)]
    simp only [goodF]
    omega
  have h2 := (goodF_fine _ 0 0 (by omega) h1).2
  rw [goodF_node, if_neg (by omega)] at h2
  simp only [goodF, fsize] at h2
  omega
/- one more object at the end of a row whose parts lie elsewhere -/
theorem app_row {W : World} {B : Nat} {v : Value} {l : List Ent} (x : Ent) (h : W.ownsRow B 25 6 v l.length (ecells l)) (hB : B ≤ W.heap.size) (hn : l.length + 1 ≤ 1599289640401) (H : Nat) (hH : W.heap.size = H) :
    ∃ g cap w2, (Builtin.append_ #[23, 23] 23 #[v, .slice (some ⟨H, 0, none⟩) 1 1]).run Tryz.prog (W.alloc (.cells x.cells.toArray 25)) = .ok (.slice (some ⟨g, 0, none⟩) (l.length + 1) cap) w2 ∧
      w2.ownsRow B 25 6 (.slice (some ⟨g, 0, none⟩) (l.length + 1) cap) (l ++ [x]).length (ecells (l ++ [x])) ∧ Below B W w2 := by
  obtain ⟨i0, hi, hz0, hz1, hz2⟩ := info_parts5 info_obj
  have hown : (W.alloc (.cells x.cells.toArray 25)).ownsRow B 25 6 v l.length (ecells l) := h.alloc _
  subst hH
  obtain ⟨g, cap, w2, hr, ho, hg, hat, hlt⟩ := run_append_lies (P := Tryz.prog) (W.alloc (.cells x.cells.toArray 25)) 23 23 B 25 i0 _ 6 88 Tryz.underlying23 hi hz0 hz1 hz2 rfl (by decide) v l.length (ecells l) hown ⟨W.heap.size, 0, none⟩ 1 1 x.cells rfl
    (fun j u hu => by rw [Go.WideShapes.add_plain, Nat.zero_add, World.cell?_alloc_at _ _ _ _ rfl]; simpa using hu) (fun u hu => by simp [Ent.cells] at hu; rcases hu with rfl | rfl | rfl | rfl | rfl | rfl <;> rfl) (by decide) (by unfold maxLen; omega) (by omega) (by simp; omega) (W.heap.size + 1) (by simp)
  refine ⟨g, cap, w2, hr, ?_, ?_⟩
  · rw [ecells_append]; simpa using ho
  · exact ((Below.refl B W).alloc (by omega) _).grown hg (by simp; omega) fun k hk' => (World.ownsRow.lt h k hk').1
/- such a row, as the items of an object -/
theorem row_items {w W : World} {B : Nat} {v : Value} {l : List Ent} (h : w.ownsRow B 25 6 v l.length (ecells l)) (hl : ∀ x ∈ l, x.lies w) (hn : l.length ≤ 1599289640401) :
    ∃ a cap, v = .slice a (flen (forest l)) cap ∧ OIn w arrP (forest l) none 0 a cap := by
  rw [forest_len]
  have h' := h
  have hp : arrP.ok := ⟨by simp only; omega, by simp only; omega, by show (0 : Nat) ≤ _; omega, by simp⟩
  obtain ⟨_, ⟨h0, h1⟩ | ⟨g, cap, cur, hv, hg, hh, hc, hm, _⟩⟩ := h'
  · exact ⟨none, 0, by rw [h0, h1], hp, ⟨Or.inl rfl, ⟨by simp, by simp⟩, by omega⟩, ⟨by rw [forest_len]; omega, by rw [forest_len]; omega⟩, by omega, Or.inl (by rw [forest_len]; exact h1)⟩
  · refine ⟨some ⟨g, 0, none⟩, cap, hv, hp, ⟨Or.inl rfl, ⟨by simp, by simp⟩, by omega⟩, ⟨by rw [forest_len]; exact hc, by rw [forest_len]; exact hn⟩, by unfold maxLen at hm; exact hm, Or.inr ⟨g, 0, rfl, ?_, ?_⟩⟩
    · rw [hv] at h; exact (World.ownsRow.lt h g rfl).2
    · rw [hv] at h
      refine rows_cells (fun j hj => ?_) hl
      rw [Nat.zero_add]
      exact World.ownsRow.cellAt h j hj
end Go.Proofs.YtalmcdbdibpgkaaGreatDoor
