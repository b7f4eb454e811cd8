/-
  Tables sorted by their tags: there is one such order where the tags are unlike; which lists are refused. Pure.
-/
import Derived.Test.YtgmmhlpdkoiheaaDoorS8St
import Derived.Test.YtgmmhlpdkoiheaaDoorS8Wh
namespace Go.Proofs.YtgmmhlpdkoiheaaDoor
open Go.RowKit Go.Deep
set_option linter.unusedVariables false

def Srt (l : List Tab) : Prop := l.Pairwise fun x y => gtT x y = false
def StT (l : List Tab) : Prop := l.Pairwise fun x y => Op.bytesLess x.1.toList y.1.toList = true
theorem less_no {a b : List UInt8} (h : Op.bytesLess a b = true) : Op.bytesLess b a = false := by
  cases e : Op.bytesLess b a with
  | false => rfl
  | true =>
    have := less_trans _ _ _ h e
    rw [less_irrefl] at this; cases this
theorem less_or {a b : List UInt8} (h : Op.bytesLess b a = false) : Op.bytesLess a b = true ∨ a = b := by
  have e := less_total a b
  rw [h, Bool.not_false, Bool.or_eq_true, beq_iff_eq] at e
  exact e
theorem less_nt {a b c : List UInt8} (h1 : Op.bytesLess a b = false) (h2 : Op.bytesLess b c = false) : Op.bytesLess a c = false := by
  cases e : Op.bytesLess a c with
  | false => rfl
  | true =>
    rcases less_or h1 with h1 | rfl
    · rcases less_or h2 with h2 | rfl
      · have := less_trans _ _ _ e (less_trans _ _ _ h2 h1)
        rw [less_irrefl] at this; cases this
      · have := less_trans _ _ _ e h1
        rw [less_irrefl] at this; cases this
    · rw [e] at h2; cases h2
theorem insR_mem (x : Tab) : ∀ r y, y ∈ insR x r → y = x ∨ y ∈ r
  | [], y, h => by simp [insR] at h; exact Or.inl h
  | q :: r, y, h => by
    rw [insR] at h
    split at h
    · rcases List.mem_cons.1 h with h | h
      · exact Or.inr (by rw [h]; exact List.mem_cons_self)
      · rcases insR_mem x r y h with h | h
        · exact Or.inl h
        · exact Or.inr (List.mem_cons_of_mem _ h)
    · rcases List.mem_cons.1 h with h | h
      · exact Or.inl h
      · exact Or.inr h
theorem insR_srt (x : Tab) : ∀ r : List Tab, (r.Pairwise fun a b => gtT b a = false) → (insR x r).Pairwise fun a b => gtT b a = false
  | [], _ => by simp [insR]
  | y :: r, h => by
    have h' := List.pairwise_cons.1 h
    rw [insR]
    split
    · rename_i hg
      refine List.pairwise_cons.2 ⟨fun b hb => ?_, insR_srt x r h'.2⟩
      rcases insR_mem x r b hb with rfl | hb
      · exact less_no hg
      · exact h'.1 b hb
    · rename_i hg
      have hg : gtT y x = false := by simpa using hg
      refine List.pairwise_cons.2 ⟨fun b hb => ?_, h⟩
      rcases List.mem_cons.1 hb with rfl | hb
      · exact hg
      · exact less_nt hg (h'.1 b hb)
theorem insR_perm (x : Tab) : ∀ r : List Tab, (insR x r).Perm (x :: r)
  | [] => List.Perm.refl _
  | y :: r => by
    rw [insR]
    split
    · exact (List.Perm.cons y (insR_perm x r)).trans (List.Perm.swap x y r)
    · exact List.Perm.refl _
theorem insV_srt (x : Tab) (l : List Tab) (h : Srt l) : Srt (insV x l) := by
  unfold Srt insV
  rw [List.pairwise_reverse]
  exact insR_srt x _ (List.pairwise_reverse.2 h)
theorem insV_perm (x : Tab) (l : List Tab) : (insV x l).Perm (x :: l) := by
  unfold insV
  exact (List.reverse_perm _).trans ((insR_perm x _).trans (List.Perm.cons x (List.reverse_perm _)))
theorem sor_both : ∀ (l a : List Tab), Srt a → Srt (l.foldl (fun a x => insV x a) a) ∧ (l.foldl (fun a x => insV x a) a).Perm (a ++ l)
  | [], a, h => ⟨h, by rw [List.append_nil]; exact List.Perm.refl _⟩
  | x :: l, a, h => by
    obtain ⟨h1, h2⟩ := sor_both l (insV x a) (insV_srt x a h)
    refine ⟨h1, h2.trans ?_⟩
    exact ((insV_perm x a).append_right l).trans List.perm_middle.symm
theorem sor_srt (l : List Tab) : Srt (sorV l) := (sor_both l [] List.Pairwise.nil).1
theorem sor_perm (l : List Tab) : (sorV l).Perm l := (sor_both l [] List.Pairwise.nil).2
theorem srt_uniq : ∀ (a b : List Tab), a.Perm b → StT a → Srt b → a = b
  | [], b, hp, _, _ => (List.Perm.nil_eq hp)
  | x :: a, [], hp, _, _ => by have := hp.length_eq; simp at this
  | x :: a, y :: b, hp, ha, hb => by
    have ha' := List.pairwise_cons.1 ha
    have hb' := List.pairwise_cons.1 hb
    have e : x = y := by
      have h1 : x ∈ y :: b := hp.subset List.mem_cons_self
      have h2 : y ∈ x :: a := hp.symm.subset List.mem_cons_self
      rcases List.mem_cons.1 h1 with h1 | h1
      · exact h1
      · rcases List.mem_cons.1 h2 with h2 | h2
        · exact h2.symm
        · have q1 := hb'.1 x h1
          have q2 := ha'.1 y h2
          unfold gtT at q1
          rw [q2] at q1; cases q1
    subst e
    rw [srt_uniq a b (List.Perm.cons_inv hp) ha'.2 hb'.2]
/- tags that rise -/
def riseM : List UInt8 → List Tab → Bool
  | _, [] => true
  | a, x :: m => tagB x.1 && (Op.bytesLess a x.1.toList && riseM x.1.toList m)
def goM (m : List Tab) : Prop := (∀ x ∈ m, x.1.size = 4) ∧ riseM [0, 0, 0, 0] m = true
theorem tag_pos {t : ByteArray} (h : tagB t = true) : Op.bytesLess [0, 0, 0, 0] t.toList = true := by
  obtain ⟨b0, b1, b2, b3, rfl⟩ := four_of (tag_size h)
  unfold tagB at h
  simp only [gdB, Bool.and_eq_true, decide_eq_true_eq] at h
  have : (0 : UInt8) < b0 := by rw [UInt8.lt_iff_toNat_lt]; show 0 < _; omega
  rw [Lib.toList_data]
  simp [Op.bytesLess, this]
theorem rise_st : ∀ (m : List Tab) (a : List UInt8), riseM a m = true → (∀ x ∈ m, tagB x.1 = true ∧ Op.bytesLess a x.1.toList = true) ∧ StT m
  | [], a, _ => ⟨fun x hx => by simp at hx, List.Pairwise.nil⟩
  | y :: m, a, h => by
    rw [riseM, Bool.and_eq_true, Bool.and_eq_true] at h
    obtain ⟨h1, h2⟩ := rise_st m _ h.2.2
    refine ⟨fun x hx => ?_, List.pairwise_cons.2 ⟨fun x hx => (h1 x hx).2, h2⟩⟩
    rcases List.mem_cons.1 hx with rfl | hx
    · exact ⟨h.1, h.2.1⟩
    · exact ⟨(h1 x hx).1, less_trans _ _ _ h.2.1 (h1 x hx).2⟩
theorem st_rise : ∀ (m : List Tab) (a : List UInt8), (∀ x ∈ m, tagB x.1 = true ∧ Op.bytesLess a x.1.toList = true) → StT m → riseM a m = true
  | [], a, _, _ => rfl
  | y :: m, a, h, hs => by
    have hs' := List.pairwise_cons.1 hs
    obtain ⟨h1, h2⟩ := h y List.mem_cons_self
    rw [riseM, h1, h2, st_rise m _ (fun x hx => ⟨(h x (List.mem_cons_of_mem _ hx)).1, hs'.1 x hx⟩) hs'.2]; rfl
theorem go_iff (m : List Tab) : goM m ↔ (∀ x ∈ m, tagB x.1 = true) ∧ StT m := by
  constructor
  · rintro ⟨_, h⟩
    obtain ⟨h1, h2⟩ := rise_st m _ h
    exact ⟨fun x hx => (h1 x hx).1, h2⟩
  · rintro ⟨h1, h2⟩
    exact ⟨fun x hx => tag_size (h1 x hx), st_rise m _ (fun x hx => ⟨h1 x hx, tag_pos (h1 x hx)⟩) h2⟩
theorem getD_some (m : List Tab) (i : Nat) (h : i < m.length) : m.getD i tz = m[i] := by
  rw [List.getD_eq_getElem?_getD, List.getElem?_eq_getElem h]; rfl
/- sorted, and neighbours unlike: it rises -/
theorem srt_st : ∀ (m : List Tab), Srt m → (∀ i, (h : i + 1 < m.length) → m[i].1 ≠ m[i + 1].1) → StT m
  | [], _, _ => List.Pairwise.nil
  | [x], _, _ => List.pairwise_singleton _ _
  | x :: y :: m, hs, hn => by
    have hs' := List.pairwise_cons.1 hs
    have ih := srt_st (y :: m) hs'.2 (fun i h => by
      have := hn (i + 1) (by simp at h ⊢; omega)
      simpa using this)
    have h0 : Op.bytesLess x.1.toList y.1.toList = true := by
      have h1 := hs'.1 y List.mem_cons_self
      have h2 : x.1 ≠ y.1 := hn 0 (by simp)
      rcases less_or h1 with h | h
      · exact h
      · exfalso; apply h2
        rw [Lib.toList_data, Lib.toList_data] at h
        obtain ⟨⟨x1⟩, _⟩ := x
        obtain ⟨⟨y1⟩, _⟩ := y
        simp at h; rw [h]
    refine List.pairwise_cons.2 ⟨fun z hz => ?_, ih⟩
    rcases List.mem_cons.1 hz with rfl | hz
    · exact h0
    · exact less_trans _ _ _ h0 ((List.pairwise_cons.1 ih).1 z hz)
theorem ok_go (m : List Tab) (hs : Srt m) (h : okA m) : goM m := by
  rw [go_iff]
  refine ⟨fun x hx => ?_, srt_st m hs fun i hi => ?_⟩
  · obtain ⟨i, hi, rfl⟩ := List.getElem_of_mem hx
    have := h i hi
    unfold okT at this
    rw [Bool.and_eq_true, getD_some m i hi] at this
    exact this.1
  · have := h (i + 1) hi
    unfold okT at this
    rw [Bool.and_eq_true, getD_some m _ hi, Nat.add_sub_cancel, getD_some m i (by omega), Bool.or_eq_true] at this
    rcases this.2 with h | h
    · simp at h
    · intro e
      rw [e] at h
      have := (eqS_iff m[i + 1].1 m[i + 1].1).2 rfl
      rw [this] at h; simp at h
theorem st_ne {m : List Tab} (h : StT m) {i j : Nat} (hi : i < j) (hj : j < m.length) : m[i].1 ≠ m[j].1 := by
  have := (List.pairwise_iff_getElem.1 h) i j (by omega) hj hi
  intro e
  rw [e, less_irrefl] at this; cases this
theorem go_ok (m : List Tab) (h : goM m) : okA m := by
  obtain ⟨h1, h2⟩ := (go_iff m).1 h
  intro i hi
  unfold okT
  rw [getD_some m i hi, h1 _ (List.getElem_mem hi), Bool.true_and, Bool.or_eq_true, decide_eq_true_eq]
  rcases Nat.eq_zero_or_pos i with h0 | h0
  · exact Or.inl h0
  · right
    rw [getD_some m (i - 1) (by omega), eqS_no (fun e => st_ne h2 (show i - 1 < i by omega) hi e.symm)]; rfl
theorem both_sort (l m : List Tab) (hp : m.Perm l) (hs : Srt m) : (okA (sorV l) → m = sorV l) ∧ (goM m → m = sorV l) := by
  constructor
  · intro h
    have h1 := ok_go _ (sor_srt l) h
    exact (srt_uniq (sorV l) m ((sor_perm l).trans hp.symm) ((go_iff _).1 h1).2 hs).symm
  · intro h
    exact srt_uniq m (sorV l) (hp.trans (sor_perm l).symm) ((go_iff _).1 h).2 (sor_srt l)
theorem ok_iff_go (l m : List Tab) (hp : m.Perm l) (hs : Srt m) : okA (sorV l) ↔ goM m := by
  constructor
  · intro h
    rw [(both_sort l m hp hs).1 h]
    exact ok_go _ (sor_srt l) h
  · intro h
    rw [← (both_sort l m hp hs).2 h]
    exact go_ok m h
/- sizes -/
theorem sz_great (m : List Tab) : ∀ k, 1048576 < szT m k → 1048576 < plT m k
  | 0, h => by unfold plT; rw [szT] at h; rw [bodT]; simp; omega
  | k + 1, h => by
    have ih := sz_great m k
    have e : plT m (k + 1) = plT m k + ((m.getD k tz).2.size + 3) / 4 * 4 := by
      unfold plT
      rw [bodT, List.length_append, padT_sz, ← Lib.size_eq]
      unfold dOf; rw [ownS_size]; omega
    rw [e]
    rw [szT] at h
    split at h
    · rename_i h'
      rcases h' with h' | h'
      · omega
      · have := ih h'; omega
    · rename_i h'
      have : szT m k = plT m k := (pl_sz m k (by omega)).symm
      omega
theorem pl_step (m : List Tab) (k : Nat) : plT m (k + 1) = plT m k + ((m.getD k tz).2.size + 3) / 4 * 4 := by
  unfold plT
  rw [bodT, List.length_append, padT_sz, ← Lib.size_eq]
  unfold dOf; rw [ownS_size]; omega
theorem sz_iff (m : List Tab) (k : Nat) : 1048576 < szT m k ↔ 1048576 < plT m k := by
  constructor
  · exact sz_great m k
  · intro h
    rcases Nat.lt_or_ge 1048576 (szT m k) with h' | h'
    · exact h'
    · have := pl_sz m k h'; omega
/- which error the landed Build has -/
theorem err_of (l m : List Tab) (hp : m.Perm l) (hs : Srt m) (h1 : 1 ≤ l.length) (h2 : l.length ≤ 32) :
    (¬ goM m → bErr l = 80) ∧ (goM m → 1048576 < plT m m.length → bErr l = 2) ∧ (goM m → plT m m.length ≤ 1048576 → bErr l = 0 ∧ m = sorV l) := by
  have hi := ok_iff_go l m hp hs
  have hl : m.length = l.length := hp.length_eq
  have e : bErr l = if okA (sorV l) then (if 1048576 < szT (sorV l) l.length then 2 else 0) else 80 := by unfold bErr; rw [if_neg (by omega)]
  refine ⟨fun h => by rw [e, if_neg (fun h' => h (hi.1 h'))], fun h hz => ?_, fun h hz => ?_⟩
  · have em := (both_sort l m hp hs).2 h
    rw [e, if_pos (hi.2 h), if_pos]
    rw [← em, ← hl]
    exact (sz_iff m _).2 hz
  · have em := (both_sort l m hp hs).2 h
    refine ⟨?_, em⟩
    rw [e, if_pos (hi.2 h), if_neg]
    rw [← em, ← hl, sz_iff]; omega
end Go.Proofs.YtgmmhlpdkoiheaaDoor
