/-
  Joined: S8Rb, S8Fi, S8So, S8Se, S8St, S8Wh, S8Tp, S8Tb, S8Su, S8Td.
-/
import Derived.Deep.CutRange
import Derived.WalkLawsBesides
import Derived.Test.YtpdfpbbamnhkfaaGreatDoorX39
import Derived.Test.YtpdfpbbamnhkfaaGreatDoorX40
namespace Go.Proofs.YtpdfpbbamnhkfaaGreatDoor.S8
open Go.RowKit Go.Deep
set_option linter.unusedVariables false
set_option linter.unusedSimpArgs false
theorem TbRow.at {w : World} {B : Nat} {v : Value} {l : List (ByteArray × ByteArray)} (h : TbRow w B v l) (h0 : 0 < l.length) : ∃ g cap, v = .slice (some ⟨g, 0, none⟩) l.length cap ∧ g < w.heap.size ∧ ∀ i x, l[i]? = some x → w.cell? ⟨g, i * 2, none⟩ = some (.string x.1) ∧ w.cell? ⟨g, i * 2 + 1, none⟩ = some (.string x.2) := by
  have h' := h
  obtain ⟨_, ⟨h1, h2⟩ | ⟨g, cap, cur, hv, _⟩⟩ := h'
  · omega
  · refine ⟨g, cap, hv, ?_, ?_⟩
    · rw [hv] at h; exact (World.ownsRow.lt h g rfl).2
    · intro i x hi
      rw [hv] at h
      have hlt := (List.getElem?_eq_some_iff.1 hi).1
      have key : ∀ (l : List (ByteArray × ByteArray)) (i : Nat) (x : ByteArray × ByteArray), l[i]? = some x → (tcs l)[i * 2]? = some (.string x.1) ∧ (tcs l)[i * 2 + 1]? = some (.string x.2) := by
        intro l
        induction l with
        | nil => intro i x h; simp at h
        | cons y l ih =>
          intro i x h
          cases i with
          | zero => simp at h; subst h; exact ⟨rfl, rfl⟩
          | succ i =>
            have := ih i x (by simpa using h)
            rw [show (i + 1) * 2 = i * 2 + 2 by omega]
            exact this
      obtain ⟨k1, k2⟩ := key l i x hi
      exact ⟨by rw [TbRow.cell h (i * 2) (by omega)]; exact k1, by rw [TbRow.cell h (i * 2 + 1) (by omega)]; exact k2⟩
end Go.Proofs.YtpdfpbbamnhkfaaGreatDoor.S8
namespace Go.Proofs.YtpdfpbbamnhkfaaGreatDoor.S8
open Go.RowKit Go.Deep
set_option linter.unusedVariables false
def eqS (a b : ByteArray) : Bool := a.toList == b.toList
theorem eqS_iff (a b : ByteArray) : eqS a b = true ↔ a = b := by
  unfold eqS
  rw [beq_iff_eq, Lib.toList_data, Lib.toList_data]
  constructor
  · intro h
    cases a with | mk a => cases b with | mk b => simp at h; rw [h]
  · intro h; rw [h]
theorem eqS_no {a b : ByteArray} (h : a ≠ b) : eqS a b = false := by
  cases e : eqS a b with
  | false => rfl
  | true => exact absurd ((eqS_iff a b).1 e) h
abbrev Tab := ByteArray × ByteArray
def TLst (w : World) (a : Option Addr) (l : List Tab) : Prop :=
  l = [] ∨ ∃ b off, a = some ⟨b, off, none⟩ ∧ b < w.heap.size ∧ ∀ i x, l[i]? = some x → w.cell? ⟨b, off + i * 2, none⟩ = some (.string x.1) ∧ w.cell? ⟨b, off + i * 2 + 1, none⟩ = some (.string x.2)
theorem TbRow.lst {w : World} {B : Nat} {v : Value} {l : List Tab} (h : TbRow w B v l) : ∃ a cap, v = .slice a l.length cap ∧ TLst w a l := by
  rcases Nat.eq_zero_or_pos l.length with h0 | h0
  · obtain ⟨a, cap, hv⟩ := h.shape
    exact ⟨a, cap, hv, Or.inl (List.eq_nil_of_length_eq_zero h0)⟩
  · obtain ⟨g, cap, hv, hg, hc⟩ := h.at h0
    exact ⟨_, cap, hv, Or.inr ⟨g, 0, rfl, hg, fun i x hi => by rw [Nat.zero_add]; exact hc i x hi⟩⟩
end Go.Proofs.YtpdfpbbamnhkfaaGreatDoor.S8
namespace Go.Proofs.YtpdfpbbamnhkfaaGreatDoor.S8
open Go.RowKit Go.Deep
set_option linter.unusedVariables false
def gtT (y x : Tab) : Bool := Op.bytesLess x.1.toList y.1.toList
def insR (x : Tab) : List Tab → List Tab
  | [] => [x]
  | y :: r => if gtT y x = true then y :: insR x r else x :: y :: r
def insV (x : Tab) (l : List Tab) : List Tab := (insR x l.reverse).reverse
def sorV (l : List Tab) : List Tab := l.foldl (fun a x => insV x a) []
theorem TbRow.at2 {w : World} {B g cap n : Nat} {l : List Tab} (h : TbRow w B (.slice (some ⟨g, 0, none⟩) n cap) l) (hn : l.length = n) (i : Nat) (x : Tab) (hi : l[i]? = some x) : w.cell? ⟨g, i * 2, none⟩ = some (.string x.1) ∧ w.cell? ⟨g, i * 2 + 1, none⟩ = some (.string x.2) := by
  obtain ⟨g', cap', hv, _, hc⟩ := h.at (by have := (List.getElem?_eq_some_iff.1 hi).1; omega)
  injection hv with h1 h2 h3
  injection h1 with h1
  injection h1 with h1
  subst h1
  exact hc i x hi
theorem TbRow.base {w : World} {B g cap n : Nat} {l : List Tab} (h : TbRow w B (.slice (some ⟨g, 0, none⟩) n cap) l) : B ≤ g ∧ g < w.heap.size := World.ownsRow.lt h g rfl
end Go.Proofs.YtpdfpbbamnhkfaaGreatDoor.S8
namespace Go.Proofs.YtpdfpbbamnhkfaaGreatDoor.S8
open Go.RowKit Go.Deep
set_option linter.unusedVariables false
def tz : Tab := (⟨#[]⟩, ⟨#[]⟩)
def okT (m : List Tab) (i : Nat) : Bool := tagB (m.getD i tz).1 && (decide (i = 0) || !eqS (m.getD i tz).1 (m.getD (i - 1) tz).1)
def szT (m : List Tab) : Nat → Nat
  | 0 => 12 + 16 * m.length
  | k + 1 => if 1048576 < (m.getD k tz).2.size ∨ 1048576 < szT m k then 1048577 else szT m k + ((m.getD k tz).2.size + 3) / 4 * 4
def okA (m : List Tab) : Prop := ∀ i, i < m.length → okT m i = true
instance (m : List Tab) : Decidable (okA m) := by unfold okA; infer_instance
def bErr (l : List Tab) : Int := if l.length < 1 ∨ 32 < l.length then 80 else if okA (sorV l) then (if 1048576 < szT (sorV l) l.length then 2 else 0) else 80
end Go.Proofs.YtpdfpbbamnhkfaaGreatDoor.S8
namespace Go.Proofs.YtpdfpbbamnhkfaaGreatDoor.S8
open Go.RowKit Go.Deep
set_option linter.unusedVariables false
def ownS (t s : ByteArray) : ByteArray := match t.data.toList with
  | [b0, b1, b2, b3] => smS b0 b1 b2 b3 s
  | _ => s
theorem ownS_size (t s : ByteArray) : (ownS t s).size = s.size := by
  unfold ownS
  split
  · exact smS_size _ _ _ _ _
  · rfl
theorem tag_size {t : ByteArray} (h : tagB t = true) : t.size = 4 := by
  rcases Nat.decEq t.size 4 with h' | h'
  · rw [tagB_no h'] at h; simp at h
  · exact h'
def dOf (m : List Tab) (k : Nat) : ByteArray := ownS (m.getD k tz).1 (m.getD k tz).2
def bodT (m : List Tab) : Nat → List UInt8
  | 0 => []
  | k + 1 => bodT m k ++ padT (dOf m k).data.toList
def plT (m : List Tab) (k : Nat) : Nat := 12 + 16 * m.length + (bodT m k).length
def rowT (m : List Tab) : Nat → List UInt8
  | 0 => []
  | k + 1 => rowT m k ++ ((m.getD k tz).1.data.toList ++ f4 ((sumV (dOf m k).data.toList : Nat) : Int) ++ f4 (plT m k : Int) ++ f4 ((dOf m k).size : Int))
def owK (m : List Tab) : Nat → Int
  | 0 => -1
  | k + 1 => if (eqS (m.getD k tz).1 ⟨#[104, 101, 97, 100]⟩ && decide (12 ≤ (dOf m k).size)) = true then (plT m k : Int) + 8 else owK m k
theorem f4_len (x : Int) : (f4 x).length = 4 := by unfold f4; rw [List.length_append, nbT_len, nbT_len]
theorem padT_sz (l : List UInt8) : (padT l).length = (l.length + 3) / 4 * 4 := by
  unfold padT
  rw [List.length_append, List.length_replicate]
  omega
theorem szT_mono (m : List Tab) (k : Nat) (h : szT m (k + 1) ≤ 1048576) : szT m k ≤ 1048576 ∧ (m.getD k tz).2.size ≤ 1048576 ∧ szT m (k + 1) = szT m k + ((m.getD k tz).2.size + 3) / 4 * 4 := by
  rw [szT] at h ⊢
  split at h
  · omega
  · rename_i h'
    rw [if_neg h']
    omega
theorem pl_sz (m : List Tab) : ∀ k, szT m k ≤ 1048576 → plT m k = szT m k
  | 0, _ => by unfold plT; rw [szT, bodT]; simp
  | k + 1, h => by
    obtain ⟨h1, h2, h3⟩ := szT_mono m k h
    have ih := pl_sz m k h1
    unfold plT at *
    rw [bodT, List.length_append, padT_sz, h3, ← ih]
    have e : (dOf m k).data.toList.length = (m.getD k tz).2.size := by
      rw [← Lib.size_eq]; unfold dOf; exact ownS_size _ _
    rw [e]; omega
theorem pl_next (m : List Tab) (k : Nat) : plT m k + (dOf m k).size ≤ plT m (k + 1) := by
  unfold plT
  rw [bodT, List.length_append, padT_sz, ← Lib.size_eq]; omega
theorem pl_mono (m : List Tab) (k : Nat) : ∀ d, plT m k ≤ plT m (k + d)
  | 0 => Nat.le_refl _
  | d + 1 => Nat.le_trans (pl_mono m k d) (Nat.le_trans (Nat.le_add_right _ _) (pl_next m (k + d)))
theorem row_len (m : List Tab) (hok : okA m) : ∀ k, k ≤ m.length → (rowT m k).length = 16 * k
  | 0, _ => rfl
  | k + 1, hk => by
    have ih := row_len m hok k (by omega)
    have h1 := hok k (by omega)
    unfold okT at h1
    rw [Bool.and_eq_true] at h1
    have h2 := tag_size h1.1
    rw [Lib.size_eq] at h2
    rw [rowT, List.length_append, List.length_append, List.length_append, List.length_append, ih, f4_len, f4_len, f4_len, h2]; omega
def txtV (m : List Tab) : List UInt8 :=
  let s := openT m.length ++ (rowT m m.length ++ bodT m m.length)
  if 0 ≤ owK m m.length then s.take (owK m m.length).toNat ++ (f4 ((2981146554 - ((sumV s : Nat) : Int)) % 4294967296) ++ s.drop ((owK m m.length).toNat + 4)) else s
end Go.Proofs.YtpdfpbbamnhkfaaGreatDoor.S8
namespace Go.Proofs.YtpdfpbbamnhkfaaGreatDoor.S8
open Go.RowKit Go.Deep
set_option linter.unusedVariables false
set_option linter.unusedSimpArgs false
theorem tabV_bd (s : ByteArray) (x : Tab) (h : x ∈ tabV s) : x.2.size ≤ s.size := by
  unfold tabV at h
  split at h
  · obtain ⟨r, _, rfl⟩ := List.mem_map.1 h
    unfold tbOf
    simp only
    rw [ByteArray.size_extract]
    omega
  · simp at h
theorem tabV_len (s : ByteArray) : (tabV s).length ≤ 32 := by
  unfold tabV
  split
  · rename_i h
    rw [List.length_map, rowsV_len]
    unfold errV at h
    split at h
    · simp at h
    · cases e : hdB s.data.toList with
      | false => rw [e] at h; simp at h
      | true =>
        unfold hdB at e
        rw [Bool.and_eq_true, Bool.and_eq_true, Bool.and_eq_true, decide_eq_true_eq, decide_eq_true_eq, decide_eq_true_eq] at e
        exact e.2.2.1
  · simp
theorem less_trans : ∀ (a b c : List UInt8), Op.bytesLess a b = true → Op.bytesLess b c = true → Op.bytesLess a c = true
  | _, _, [], _, h => by simp [Op.bytesLess] at h
  | [], _, c :: z, _, _ => by simp [Op.bytesLess]
  | a :: x, [], c :: z, h, _ => by simp [Op.bytesLess] at h
  | a :: x, b :: y, c :: z, h1, h2 => by
    have ih := less_trans x y z
    simp only [Op.bytesLess, Bool.or_eq_true, Bool.and_eq_true, decide_eq_true_eq, beq_iff_eq] at *
    rcases h1 with h1 | ⟨rfl, h1⟩
    · rcases h2 with h2 | ⟨rfl, h2⟩
      · left; rw [UInt8.lt_iff_toNat_lt] at *; omega
      · left; exact h1
    · rcases h2 with h2 | ⟨rfl, h2⟩
      · left; exact h2
      · right; exact ⟨rfl, ih h1 h2⟩
theorem less_irrefl : ∀ (a : List UInt8), Op.bytesLess a a = false
  | [] => rfl
  | a :: x => by
    have : ¬ a < a := by rw [UInt8.lt_iff_toNat_lt]; omega
    simp [Op.bytesLess, this, less_irrefl x]
end Go.Proofs.YtpdfpbbamnhkfaaGreatDoor.S8
namespace Go.Proofs.YtpdfpbbamnhkfaaGreatDoor.S8
open Go.RowKit Go.Deep
set_option linter.unusedVariables false
def Srt (l : List Tab) : Prop := l.Pairwise fun x y => gtT x y = false
def StT (l : List Tab) : Prop := l.Pairwise fun x y => Op.bytesLess x.1.toList y.1.toList = true
theorem less_no {a b : List UInt8} (h : Op.bytesLess a b = true) : Op.bytesLess b a = false := by
  cases e : Op.bytesLess b a with
  | false => rfl
  | true =>
    have := less_trans _ _ _ h e
    rw [less_irrefl] at this; cases this
theorem less_or {a b : List UInt8} (h : Op.bytesLess b a = false) : Op.bytesLess a b = true ∨ a = b := by
  have e := less_total a b
  rw [h, Bool.not_false, Bool.or_eq_true, beq_iff_eq] at e
  exact e
theorem less_nt {a b c : List UInt8} (h1 : Op.bytesLess a b = false) (h2 : Op.bytesLess b c = false) : Op.bytesLess a c = false := by
  cases e : Op.bytesLess a c with
  | false => rfl
  | true =>
    rcases less_or h1 with h1 | rfl
    · rcases less_or h2 with h2 | rfl
      · have := less_trans _ _ _ e (less_trans _ _ _ h2 h1)
        rw [less_irrefl] at this; cases this
      · have := less_trans _ _ _ e h1
        rw [less_irrefl] at this; cases this
    · rw [e] at h2; cases h2
theorem insR_mem (x : Tab) : ∀ r y, y ∈ insR x r → y = x ∨ y ∈ r
  | [], y, h => by simp [insR] at h; exact Or.inl h
  | q :: r, y, h => by
    rw [insR] at h
    split at h
    · rcases List.mem_cons.1 h with h | h
      · exact Or.inr (by rw [h]; exact List.mem_cons_self)
      · rcases insR_mem x r y h with h | h
        · exact Or.inl h
        · exact Or.inr (List.mem_cons_of_mem _ h)
    · rcases List.mem_cons.1 h with h | h
      · exact Or.inl h
      · exact Or.inr h
theorem insR_srt (x : Tab) : ∀ r : List Tab, (r.Pairwise fun a b => gtT b a = false) → (insR x r).Pairwise fun a b => gtT b a = false
  | [], _ => by simp [insR]
  | y :: r, h => by
    have h' := List.pairwise_cons.1 h
    rw [insR]
    split
    · rename_i hg
      refine List.pairwise_cons.2 ⟨fun b hb => ?_, insR_srt x r h'.2⟩
      rcases insR_mem x r b hb with rfl | hb
      · exact less_no hg
      · exact h'.1 b hb
    · rename_i hg
      have hg : gtT y x = false := by simpa using hg
      refine List.pairwise_cons.2 ⟨fun b hb => ?_, h⟩
      rcases List.mem_cons.1 hb with rfl | hb
      · exact hg
      · exact less_nt hg (h'.1 b hb)
theorem insR_perm (x : Tab) : ∀ r : List Tab, (insR x r).Perm (x :: r)
  | [] => List.Perm.refl _
  | y :: r => by
    rw [insR]
    split
    · exact (List.Perm.cons y (insR_perm x r)).trans (List.Perm.swap x y r)
    · exact List.Perm.refl _
theorem insV_srt (x : Tab) (l : List Tab) (h : Srt l) : Srt (insV x l) := by
  unfold Srt insV
  rw [List.pairwise_reverse]
  exact insR_srt x _ (List.pairwise_reverse.2 h)
theorem insV_perm (x : Tab) (l : List Tab) : (insV x l).Perm (x :: l) := by
  unfold insV
  exact (List.reverse_perm _).trans ((insR_perm x _).trans (List.Perm.cons x (List.reverse_perm _)))
theorem sor_both : ∀ (l a : List Tab), Srt a → Srt (l.foldl (fun a x => insV x a) a) ∧ (l.foldl (fun a x => insV x a) a).Perm (a ++ l)
  | [], a, h => ⟨h, by rw [List.append_nil]; exact List.Perm.refl _⟩
  | x :: l, a, h => by
    obtain ⟨h1, h2⟩ := sor_both l (insV x a) (insV_srt x a h)
    refine ⟨h1, h2.trans ?_⟩
    exact ((insV_perm x a).append_right l).trans List.perm_middle.symm
theorem sor_srt (l : List Tab) : Srt (sorV l) := (sor_both l [] List.Pairwise.nil).1
theorem sor_perm (l : List Tab) : (sorV l).Perm l := (sor_both l [] List.Pairwise.nil).2
theorem srt_uniq : ∀ (a b : List Tab), a.Perm b → StT a → Srt b → a = b
  | [], b, hp, _, _ => (List.Perm.nil_eq hp)
  | x :: a, [], hp, _, _ => by have := hp.length_eq; simp at this
  | x :: a, y :: b, hp, ha, hb => by
    have ha' := List.pairwise_cons.1 ha
    have hb' := List.pairwise_cons.1 hb
    have e : x = y := by
      have h1 : x ∈ y :: b := hp.subset List.mem_cons_self
      have h2 : y ∈ x :: a := hp.symm.subset List.mem_cons_self
      rcases List.mem_cons.1 h1 with h1 | h1
      · exact h1
      · rcases List.mem_cons.1 h2 with h2 | h2
        · exact h2.symm
        · have q1 := hb'.1 x h1
          have q2 := ha'.1 y h2
          unfold gtT at q1
          rw [q2] at q1; cases q1
    subst e
    rw [srt_uniq a b (List.Perm.cons_inv hp) ha'.2 hb'.2]
def riseM : List UInt8 → List Tab → Bool
  | _, [] => true
  | a, x :: m => tagB x.1 && (Op.bytesLess a x.1.toList && riseM x.1.toList m)
def goM (m : List Tab) : Prop := (∀ x ∈ m, x.1.size = 4) ∧ riseM [0, 0, 0, 0] m = true
theorem tag_pos {t : ByteArray} (h : tagB t = true) : Op.bytesLess [0, 0, 0, 0] t.toList = true := by
  obtain ⟨b0, b1, b2, b3, rfl⟩ := four_of (tag_size h)
  unfold tagB at h
  simp only [gdB, Bool.and_eq_true, decide_eq_true_eq] at h
  have : (0 : UInt8) < b0 := by rw [UInt8.lt_iff_toNat_lt]; show 0 < _; omega
  rw [Lib.toList_data]
  simp [Op.bytesLess, this]
theorem rise_st : ∀ (m : List Tab) (a : List UInt8), riseM a m = true → (∀ x ∈ m, tagB x.1 = true ∧ Op.bytesLess a x.1.toList = true) ∧ StT m
  | [], a, _ => ⟨fun x hx => by simp at hx, List.Pairwise.nil⟩
  | y :: m, a, h => by
    rw [riseM, Bool.and_eq_true, Bool.and_eq_true] at h
    obtain ⟨h1, h2⟩ := rise_st m _ h.2.2
    refine ⟨fun x hx => ?_, List.pairwise_cons.2 ⟨fun x hx => (h1 x hx).2, h2⟩⟩
    rcases List.mem_cons.1 hx with rfl | hx
    · exact ⟨h.1, h.2.1⟩
    · exact ⟨(h1 x hx).1, less_trans _ _ _ h.2.1 (h1 x hx).2⟩
theorem st_rise : ∀ (m : List Tab) (a : List UInt8), (∀ x ∈ m, tagB x.1 = true ∧ Op.bytesLess a x.1.toList = true) → StT m → riseM a m = true
  | [], a, _, _ => rfl
  | y :: m, a, h, hs => by
    have hs' := List.pairwise_cons.1 hs
    obtain ⟨h1, h2⟩ := h y List.mem_cons_self
    rw [riseM, h1, h2, st_rise m _ (fun x hx => ⟨(h x (List.mem_cons_of_mem _ hx)).1, hs'.1 x hx⟩) hs'.2]; rfl
theorem go_iff (m : List Tab) : goM m ↔ (∀ x ∈ m, tagB x.1 = true) ∧ StT m := by
  constructor
  · rintro ⟨_, h⟩
    obtain ⟨h1, h2⟩ := rise_st m _ h
    exact ⟨fun x hx => (h1 x hx).1, h2⟩
  · rintro ⟨h1, h2⟩
    exact ⟨fun x hx => tag_size (h1 x hx), st_rise m _ (fun x hx => ⟨h1 x hx, tag_pos (h1 x hx)⟩) h2⟩
theorem getD_some (m : List Tab) (i : Nat) (h : i < m.length) : m.getD i tz = m[i] := by
  rw [List.getD_eq_getElem?_getD, List.getElem?_eq_getElem h]; rfl
theorem srt_st : ∀ (m : List Tab), Srt m → (∀ i, (h : i + 1 < m.length) → m[i].1 ≠ m[i + 1].1) → StT m
  | [], _, _ => List.Pairwise.nil
  | [x], _, _ => List.pairwise_singleton _ _
  | x :: y :: m, hs, hn => by
    have hs' := List.pairwise_cons.1 hs
    have ih := srt_st (y :: m) hs'.2 (fun i h => by
      have := hn (i + 1) (by simp at h ⊢; omega)
      simpa using this)
    have h0 : Op.bytesLess x.1.toList y.1.toList = true := by
      have h1 := hs'.1 y List.mem_cons_self
      have h2 : x.1 ≠ y.1 := hn 0 (by simp)
      rcases less_or h1 with h | h
      · exact h
      · exfalso; apply h2
        rw [Lib.toList_data, Lib.toList_data] at h
        obtain ⟨⟨x1⟩, _⟩ := x
        obtain ⟨⟨y1⟩, _⟩ := y
        simp at h; rw [h]
    refine List.pairwise_cons.2 ⟨fun z hz => ?_, ih⟩
    rcases List.mem_cons.1 hz with rfl | hz
    · exact h0
    · exact less_trans _ _ _ h0 ((List.pairwise_cons.1 ih).1 z hz)
theorem ok_go (m : List Tab) (hs : Srt m) (h : okA m) : goM m := by
  rw [go_iff]
  refine ⟨fun x hx => ?_, srt_st m hs fun i hi => ?_⟩
  · obtain ⟨i, hi, rfl⟩ := List.getElem_of_mem hx
    have := h i hi
    unfold okT at this
    rw [Bool.and_eq_true, getD_some m i hi] at this
    exact this.1
  · have := h (i + 1) hi
    unfold okT at this
    rw [Bool.and_eq_true, getD_some m _ hi, Nat.add_sub_cancel, getD_some m i (by omega), Bool.or_eq_true] at this
    rcases this.2 with h | h
    · simp at h
    · intro e
      rw [e] at h
      have := (eqS_iff m[i + 1].1 m[i + 1].1).2 rfl
      rw [this] at h; simp at h
theorem st_ne {m : List Tab} (h : StT m) {i j : Nat} (hi : i < j) (hj : j < m.length) : m[i].1 ≠ m[j].1 := by
  have := (List.pairwise_iff_getElem.1 h) i j (by omega) hj hi
  intro e
  rw [e, less_irrefl] at this; cases this
theorem go_ok (m : List Tab) (h : goM m) : okA m := by
  obtain ⟨h1, h2⟩ := (go_iff m).1 h
  intro i hi
  unfold okT
  rw [getD_some m i hi, h1 _ (List.getElem_mem hi), Bool.true_and, Bool.or_eq_true, decide_eq_true_eq]
  rcases Nat.eq_zero_or_pos i with h0 | h0
  · exact Or.inl h0
  · right
    rw [getD_some m (i - 1) (by omega), eqS_no (fun e => st_ne h2 (show i - 1 < i by omega) hi e.symm)]; rfl
theorem both_sort (l m : List Tab) (hp : m.Perm l) (hs : Srt m) : (okA (sorV l) → m = sorV l) ∧ (goM m → m = sorV l) := by
  constructor
  · intro h
    have h1 := ok_go _ (sor_srt l) h
    exact (srt_uniq (sorV l) m ((sor_perm l).trans hp.symm) ((go_iff _).1 h1).2 hs).symm
  · intro h
    exact srt_uniq m (sorV l) (hp.trans (sor_perm l).symm) ((go_iff _).1 h).2 (sor_srt l)
theorem ok_iff_go (l m : List Tab) (hp : m.Perm l) (hs : Srt m) : okA (sorV l) ↔ goM m := by
  constructor
  · intro h
    rw [(both_sort l m hp hs).1 h]
    exact ok_go _ (sor_srt l) h
  · intro h
    rw [← (both_sort l m hp hs).2 h]
    exact go_ok m h
theorem sz_great (m : List Tab) : ∀ k, 1048576 < szT m k → 1048576 < plT m k
  | 0, h => by unfold plT; rw [szT] at h; rw [bodT]; simp; omega
  | k + 1, h => by
    have ih := sz_great m k
    have e : plT m (k + 1) = plT m k + ((m.getD k tz).2.size + 3) / 4 * 4 := by
      unfold plT
      rw [bodT, List.length_append, padT_sz, ← Lib.size_eq]
      unfold dOf; rw [ownS_size]; omega
    rw [e]
    rw [szT] at h
    split at h
    · rename_i h'
      rcases h' with h' | h'
      · omega
      · have := ih h'; omega
    · rename_i h'
      have : szT m k = plT m k := (pl_sz m k (by omega)).symm
      omega
theorem pl_step (m : List Tab) (k : Nat) : plT m (k + 1) = plT m k + ((m.getD k tz).2.size + 3) / 4 * 4 := by
  unfold plT
  rw [bodT, List.length_append, padT_sz, ← Lib.size_eq]
  unfold dOf; rw [ownS_size]; omega
theorem sz_iff (m : List Tab) (k : Nat) : 1048576 < szT m k ↔ 1048576 < plT m k := by
  constructor
  · exact sz_great m k
  · intro h
    rcases Nat.lt_or_ge 1048576 (szT m k) with h' | h'
    · exact h'
    · have := pl_sz m k h'; omega
theorem err_of (l m : List Tab) (hp : m.Perm l) (hs : Srt m) (h1 : 1 ≤ l.length) (h2 : l.length ≤ 32) :
    (¬ goM m → bErr l = 80) ∧ (goM m → 1048576 < plT m m.length → bErr l = 2) ∧ (goM m → plT m m.length ≤ 1048576 → bErr l = 0 ∧ m = sorV l) := by
  have hi := ok_iff_go l m hp hs
  have hl : m.length = l.length := hp.length_eq
  have e : bErr l = if okA (sorV l) then (if 1048576 < szT (sorV l) l.length then 2 else 0) else 80 := by unfold bErr; rw [if_neg (by omega)]
  refine ⟨fun h => by rw [e, if_neg (fun h' => h (hi.1 h'))], fun h hz => ?_, fun h hz => ?_⟩
  · have em := (both_sort l m hp hs).2 h
    rw [e, if_pos (hi.2 h), if_pos]
    rw [← em, ← hl]
    exact (sz_iff m _).2 hz
  · have em := (both_sort l m hp hs).2 h
    refine ⟨?_, em⟩
    rw [e, if_pos (hi.2 h), if_neg]
    rw [← em, ← hl, sz_iff]; omega
end Go.Proofs.YtpdfpbbamnhkfaaGreatDoor.S8
namespace Go.Proofs.YtpdfpbbamnhkfaaGreatDoor.S8
open Go.RowKit Go.Deep
set_option linter.unusedVariables false
set_option linter.unusedSimpArgs false
def lyRw (m : List Tab) (k : Nat) : Rw := ⟨(m.getD k tz).1.data.toList.getD 0 0, (m.getD k tz).1.data.toList.getD 1 0, (m.getD k tz).1.data.toList.getD 2 0, (m.getD k tz).1.data.toList.getD 3 0, 0, (plT m k : Int), ((m.getD k tz).2.size : Int)⟩
def lyRs (m : List Tab) (k : Nat) : List Rw := (List.range k).map (lyRw m)
theorem lyRs_len (m : List Tab) (k : Nat) : (lyRs m k).length = k := by unfold lyRs; simp
theorem lyRs_succ (m : List Tab) (k : Nat) : lyRs m (k + 1) = lyRs m k ++ [lyRw m k] := by unfold lyRs; exact map_range_succ _ _
theorem lyRs_at (m : List Tab) (n i : Nat) (h : i < n) : (lyRs m n)[i]? = some (lyRw m i) := by unfold lyRs; simp [h]
theorem tgT_ly (m : List Tab) (k : Nat) (h : (m.getD k tz).1.size = 4) : tgT (lyRw m k) = (m.getD k tz).1.data.toList := by
  obtain ⟨b0, b1, b2, b3, e⟩ := four_of h
  unfold tgT lyRw
  rw [e]; rfl
theorem goodT_ly (m : List Tab) (k : Nat) (h : (m.getD k tz).1.size = 4) : goodT (lyRw m k) = tagB (m.getD k tz).1 := by
  obtain ⟨b0, b1, b2, b3, e⟩ := four_of h
  unfold goodT lyRw tagB
  rw [e]; rfl
theorem rise_eq : ∀ (rs : List Rw) (m : List Tab) (a : List UInt8), rs.length = m.length → (∀ (i : Nat) (r : Rw) (x : Tab), rs[i]? = some r → m[i]? = some x → tgT r = x.1.toList ∧ goodT r = tagB x.1) → riseB a rs = riseM a m
  | [], [], a, _, _ => rfl
  | [], x :: m, a, h, _ => by simp at h
  | r :: rs, [], a, h, _ => by simp at h
  | r :: rs, x :: m, a, h, hh => by
    obtain ⟨h1, h2⟩ := hh 0 r x rfl rfl
    rw [riseB, riseM, h1, h2, rise_eq rs m _ (by simpa using h) (fun i r' x' hi hx => hh (i + 1) r' x' (by simpa using hi) (by simpa using hx))]
theorem rise_ly (m : List Tab) (n : Nat) (hn : m.length = n) (h : ∀ x ∈ m, x.1.size = 4) : riseB [0, 0, 0, 0] (lyRs m n) = riseM [0, 0, 0, 0] m := by
  refine rise_eq _ _ _ (by rw [lyRs_len, hn]) fun i r x hi hx => ?_
  obtain ⟨hil, hxe⟩ := List.getElem?_eq_some_iff.1 hx
  rw [lyRs_at m n i (by omega)] at hi
  have e : m.getD i tz = x := by rw [getD_some m i hil, hxe]
  have h4 : (m.getD i tz).1.size = 4 := by rw [e]; exact h x (List.mem_of_getElem? hx)
  injection hi with hi
  subst hi
  exact ⟨by rw [tgT_ly m i h4, e, Lib.toList_data], by rw [goodT_ly m i h4, e]⟩
theorem pl_bd (m : List Tab) (n : Nat) (hn : m.length ≤ 32) (hz : ∀ x ∈ m, x.2.size ≤ 1073741824) : ∀ k, k ≤ n → n ≤ m.length → plT m k ≤ 1000 + k * 1073741828
  | 0, _, _ => by unfold plT; rw [bodT]; simp; omega
  | k + 1, hk, h => by
    have ih := pl_bd m n hn hz k (by omega) h
    rw [pl_step]
    have := hz _ (List.getElem_mem (show k < m.length by omega))
    rw [getD_some m k (by omega)]
    omega
theorem copy_tagG (V : World) (b : Nat) (b0 b1 b2 b3 : UInt8) (x4 x5 x6 : Value) (k : Blk V b #[.int .u8 0, .int .u8 0, .int .u8 0, .int .u8 0, x4, x5, x6] 178) :
    ∃ W2, (Builtin.copy_ #[128, 9] 3 #[.slice (some ⟨b, 0, none⟩) 4 4, .string (tgS b0 b1 b2 b3)]).run Tryz.prog V = .ok (.int .i64 4) W2 ∧ Blk W2 b #[.int .u8 (b0.toNat : Int), .int .u8 (b1.toNat : Int), .int .u8 (b2.toNat : Int), .int .u8 (b3.toNat : Int), x4, x5, x6] 178 ∧ Below b V W2 := by
  have hcp := run_copy_str8 V 3 b 0 4 4 (tgS b0 b1 b2 b3) (by show 4 ≤ 4; omega) (fun j hj => by rw [Nat.zero_add, k.cell j]; simp; omega) (fun j hj => k.frozen _)
  have h0 : Blk (V.setCell ⟨b, 0, none⟩ (.int .u8 (b0.toNat : Int))) b #[.int .u8 (b0.toNat : Int), .int .u8 0, .int .u8 0, .int .u8 0, x4, x5, x6] 178 := k.set 0 _
  have h1 : Blk ((V.setCell ⟨b, 0, none⟩ (.int .u8 (b0.toNat : Int))).setCell ⟨b, 1, none⟩ (.int .u8 (b1.toNat : Int))) b #[.int .u8 (b0.toNat : Int), .int .u8 (b1.toNat : Int), .int .u8 0, .int .u8 0, x4, x5, x6] 178 := h0.set 1 _
  have h2 : Blk (((V.setCell ⟨b, 0, none⟩ (.int .u8 (b0.toNat : Int))).setCell ⟨b, 1, none⟩ (.int .u8 (b1.toNat : Int))).setCell ⟨b, 2, none⟩ (.int .u8 (b2.toNat : Int))) b #[.int .u8 (b0.toNat : Int), .int .u8 (b1.toNat : Int), .int .u8 (b2.toNat : Int), .int .u8 0, x4, x5, x6] 178 := h1.set 2 _
  have h3 : Blk ((((V.setCell ⟨b, 0, none⟩ (.int .u8 (b0.toNat : Int))).setCell ⟨b, 1, none⟩ (.int .u8 (b1.toNat : Int))).setCell ⟨b, 2, none⟩ (.int .u8 (b2.toNat : Int))).setCell ⟨b, 3, none⟩ (.int .u8 (b3.toNat : Int))) b #[.int .u8 (b0.toNat : Int), .int .u8 (b1.toNat : Int), .int .u8 (b2.toNat : Int), .int .u8 (b3.toNat : Int), x4, x5, x6] 178 := h2.set 3 _
  refine ⟨_, hcp, h3, ?_⟩
  exact ((((Below.refl b V).setCell (p := ⟨b, 0, none⟩) (Nat.le_refl _) (.int .u8 (b0.toNat : Int))).setCell (p := ⟨b, 1, none⟩) (Nat.le_refl _) (.int .u8 (b1.toNat : Int))).setCell (p := ⟨b, 2, none⟩) (Nat.le_refl _) (.int .u8 (b2.toNat : Int))).setCell (p := ⟨b, 3, none⟩) (Nat.le_refl _) (.int .u8 (b3.toNat : Int))
theorem RAt.of {w : World} {b : Nat} {r : Rw} {t : TypeId} (K : Blk w b (rwC r) t) : b < w.heap.size ∧ w.cell? ⟨b, 0, none⟩ = some (.int .u8 (r.b0.toNat : Int)) ∧ w.cell? ⟨b, 1, none⟩ = some (.int .u8 (r.b1.toNat : Int)) ∧ w.cell? ⟨b, 2, none⟩ = some (.int .u8 (r.b2.toNat : Int)) ∧ w.cell? ⟨b, 3, none⟩ = some (.int .u8 (r.b3.toNat : Int)) ∧ w.cell? ⟨b, 4, none⟩ = some (.int .i64 r.sum) ∧ w.cell? ⟨b, 5, none⟩ = some (.int .i64 r.pl) ∧ w.cell? ⟨b, 6, none⟩ = some (.int .i64 r.ln) :=
  ⟨K.lt, K.cell 0, K.cell 1, K.cell 2, K.cell 3, K.cell 4, K.cell 5, K.cell 6⟩
def LyR (w : World) (m : List Tab) (n : Nat) (e : Ending) (w' : World) : Prop :=
  Below w.heap.size w w' ∧ (((∃ x ∈ m, x.1.size ≠ 4) ∧ e = .returned (.tuple #[.slice none 0 0, .int .i64 0, .bool false])) ∨
    ((∀ x ∈ m, x.1.size = 4) ∧ ∃ b cap, e = .returned (.tuple #[.slice (some ⟨b, 0, none⟩) n cap, .int .i64 (plT m n : Int), .bool (riseM [0, 0, 0, 0] m)]) ∧ RLst w' b (lyRs m n)))
set_option maxRecDepth 8000 in
set_option maxHeartbeats 4000000 in
theorem lay_any (g c n : Nat) (m : List Tab) (w : World) (hn : m.length = n) (h1 : 1 ≤ n) (h2 : n ≤ 32) (hz : ∀ x ∈ m, x.1.size ≤ 1073741824 ∧ x.2.size ≤ 1073741824) (hg : g < w.heap.size)
    (hL : ∀ i x, m[i]? = some x → w.cell? ⟨g, i * 2, none⟩ = some (.string x.1) ∧ w.cell? ⟨g, i * 2 + 1, none⟩ = some (.string x.2)) :
    Calls Tryz.prog 101 #[.slice (some ⟨g, 0, none⟩) n c] w (LyR w m n) := by
  have h1' : (1 : Int) ≤ (n : Int) := by omega
  have h2' : (n : Int) ≤ 32 := by omega
  have CD1 := hide (fun (w : World) => dsize_any (n : Int) w (by omega) (by omega))
  have CF := hide (fun (x : Int) (w : World) h0 h1 => filled_any x w h0 h1)
  have HL := hide hL
  have HN := hide hn
  have HZ := hide hz
  have HP := hide (pl_bd m n (by omega) (fun x hx => (hz x hx).2))
  have H12 := hide (And.intro h1 h2)
  clear hL hn hz h1 h2
  go_enter Tryz.func101, Tryz.ntmps101
  go_wp2_with (go_at_call 142; refine (CD1.out _).mono ?_; rintro e w' ⟨rfl, hw'⟩; replace hw' := hw'.symm; subst hw')
  go_loopw [5, 6, 15] (fun vr vs vi wr => ∃ k : Nat, vi = .int .i64 k ∧ vs = .int .i64 (plT m k : Int) ∧ Hid (k ≤ n ∧ RRow wr w.heap.size vr (lyRs m k) ∧ Below w.heap.size w wr ∧ ∀ i x, i < k → m[i]? = some x → x.1.size = 4)) (fun _ _ vi _ => n - (intOf vi).toNat)
  case atStart =>
    refine ⟨0, rfl, ?_, hide ⟨by omega, RRow.nil _ _, Below.refl _ _, fun i x hi => by omega⟩⟩
    unfold plT
    rw [bodT, HN.out]
    simp
  case round =>
    obtain ⟨vr, hvr⟩ : ∃ v, v = u5 := ⟨_, rfl⟩
    subst hvr
    obtain ⟨k, rfl, rfl, HV⟩ := hrel
    obtain ⟨hk, hT, hb, hall⟩ := HV.out
    have hk0 : (0 : Int) ≤ (k : Int) := by omega
    clear HV
    by_cases hlt : k < n
    case neg =>
      obtain rfl : n = k := by omega
      have hlt' : ¬ (n : Int) < (n : Int) := by omega
      have ha4 : ∀ x ∈ m, x.1.size = 4 := fun x hx => by
        obtain ⟨i, hi, rfl⟩ := List.getElem_of_mem hx
        exact hall i _ (by have := HN.out; omega) (List.getElem?_eq_getElem hi)
      obtain ⟨b, cap, hv, hRL⟩ := hT.lst (by rw [lyRs_len]; have := H12.out; omega)
      rw [lyRs_len] at hv
      subst hv
      have hte := tagsRise_any (lyRs m n) b n cap wr (lyRs_len _ _) (by have := H12.out; omega) hRL
      rw [rise_ly m n HN.out ha4] at hte
      have CT := hide hte
      have HRL := hide hRL
      have HB := hide hb
      have HA4 := hide ha4
      clear hT hb hall hRL ha4 hte
      go_wp2_with (go_at_call 144; refine CT.out.mono ?_; rintro e w9 ⟨rfl, h9⟩)
      go_ret3
      exact ⟨below_t5 HB.out h9, Or.inr ⟨HA4.out, _, _, rfl, HRL.out.below h9⟩⟩
    have hlt' : (k : Int) < (n : Int) := by omega
    obtain ⟨x, hx⟩ : ∃ x, m[k]? = some x := ⟨_, List.getElem?_eq_getElem (by have := HN.out; omega)⟩
    have hxm := List.mem_of_getElem? hx
    obtain ⟨c0, c1⟩ := HL.out k x hx
    rw [← hb.cell (p := ⟨g, k * 2, none⟩) hg] at c0
    rw [← hb.cell (p := ⟨g, k * 2 + 1, none⟩) hg] at c1
    obtain ⟨hz1, hz2⟩ := HZ.out x hxm
    have hxe : m.getD k tz = x := by rw [List.getD_eq_getElem?_getD, hx]; rfl
    have hgw : g < wr.heap.size := Nat.lt_of_lt_of_le hg hb.size
    have hne : g ≠ wr.heap.size := by omega
    obtain ⟨P, hP⟩ : ∃ P, plT m k = P := ⟨_, rfl⟩
    have hPb : (P : Int) ≤ 40000000000 := by have := HP.out k hk (by have := HN.out; omega); have := H12.out; rw [hP] at *; omega
    have hPn := pl_step m k
    rw [hP, hxe] at hPn
    have hly : lyRw m k = ⟨x.1.data.toList.getD 0 0, x.1.data.toList.getD 1 0, x.1.data.toList.getD 2 0, x.1.data.toList.getD 3 0, 0, (P : Int), (x.2.size : Int)⟩ := by unfold lyRw; rw [hxe, hP]
    rw [hP]
    obtain ⟨x1, x2⟩ := x
    simp only at c0 c1 hz1 hz2 hPn hly
    have hx2 : (x2.size : Int) ≤ 1073741824 := by omega
    have hx1 : (x1.size : Int) ≤ 1073741824 := by omega
    by_cases h4 : x1.size = 4
    case neg =>
      have h4' : ((x1.size : Int) != 4) = true := by simp; omega
      have HB := hide hb
      have HX := hide (show ∃ x ∈ m, x.1.size ≠ 4 from ⟨_, hxm, h4⟩)
      clear hT hb hall hx hxe hP hPn hly h4 hz1 hz2 hxm hPb
      go_wp2_with fail
      go_ret3
      exact ⟨HB.out.alloc HB.out.size _, Or.inl ⟨HX.out, rfl⟩⟩
    have h4' : ((x1.size : Int) != 4) = false := by simp; omega
    obtain ⟨b0, b1, b2, b3, rfl⟩ := four_of h4
    obtain ⟨va, vc, hvs⟩ := hT.shape
    rw [lyRs_len] at hvs
    subst hvs
    have hown : ∀ j, wr.heap.size ≤ j → some j ≠ (Value.slice va k vc).ownBlock := fun j hj e => by have := hT.own_lt e; omega
    have HOWN := hide hown
    have HT := hide hT
    have HB := hide hb
    have HALL := hide hall
    have HX := hide hx
    have HPN := hide hPn
    have HLY := hide hly
    have HLS := hide (lyRs_succ m k)
    clear hT hb hall hx hxe hP hPn hly h4 hz1 hz2 hxm hown
    go_wp2_with fail
    rename_i kk0
    have HA := hide kk0
    clear kk0
    have k0 := (Blk.new wr #[.string (tgS b0 b1 b2 b3), .string x2] 94).below ((Below.refl _ _).alloc (Nat.le_refl _) (.cells #[.int .u8 0, .int .u8 0, .int .u8 0, .int .u8 0, .int .i64 0, .int .i64 (P : Int), .int .i64 (x2.size : Int)] 178))
    have k1 := Blk.new (wr.alloc (.cells #[.string (tgS b0 b1 b2 b3), .string x2] 94)) #[.int .u8 0, .int .u8 0, .int .u8 0, .int .u8 0, .int .i64 0, .int .i64 (P : Int), .int .i64 (x2.size : Int)] 178
    rw [show (wr.alloc (.cells #[.string (tgS b0 b1 b2 b3), .string x2] 94)).heap.size = wr.heap.size + 1 by simp] at k1
    have hbv : Below wr.heap.size wr ((wr.alloc (.cells #[.string (tgS b0 b1 b2 b3), .string x2] 94)).alloc (.cells #[.int .u8 0, .int .u8 0, .int .u8 0, .int .u8 0, .int .i64 0, .int .i64 (P : Int), .int .i64 (x2.size : Int)] 178)) := ((Below.refl _ _).alloc (Nat.le_refl _) _).alloc (by simp) _
    generalize (wr.alloc (.cells #[.string (tgS b0 b1 b2 b3), .string x2] 94)).alloc (.cells #[.int .u8 0, .int .u8 0, .int .u8 0, .int .u8 0, .int .i64 0, .int .i64 (P : Int), .int .i64 (x2.size : Int)] 178) = V at k0 k1 hbv ⊢
    obtain ⟨W2, hcp, K2, hB2⟩ := copy_tagG V.drew (wr.heap.size + 1) b0 b1 b2 b3 _ _ _ k1
    have k02 : Blk W2 wr.heap.size #[.string (tgS b0 b1 b2 b3), .string x2] 94 := (show Blk V.drew wr.heap.size #[.string (tgS b0 b1 b2 b3), .string x2] 94 from k0).kept hB2 (by omega)
    have HS1 := hide (show V.drew.cell? ⟨wr.heap.size, 0, none⟩ = some (.string (tgS b0 b1 b2 b3)) from k0.cell 0)
    have HS2 := hide (show W2.cell? ⟨wr.heap.size, 0, none⟩ = some (.string (tgS b0 b1 b2 b3)) from k02.cell 0)
    have HCP := hide hcp
    have hB2' : Below wr.heap.size wr W2 := (Below.drew hbv).trans (hB2.mono (by omega))
    have hT2 := HT.out.later hB2'
    have hw2 : w.heap.size ≤ W2.heap.size := Nat.le_trans HB.out.size hB2'.size
    obtain ⟨gn, cap, w3, hr3, hT3, hB3, hkp⟩ := app_rowG (W := W2) ⟨b0, b1, b2, b3, 0, (P : Int), (x2.size : Int)⟩ hT2 hw2 (LT := k) ⟨lyRs_len _ _, by have := H12.out; omega⟩ _ rfl
    have K3 : Blk w3 (wr.heap.size + 1) (rwC ⟨b0, b1, b2, b3, 0, (P : Int), (x2.size : Int)⟩) 178 := by
      have := hkp (wr.heap.size + 1) K2.lt (HOWN.out _ (by omega))
      unfold Blk at *
      rw [this]; exact K2
    have HR3 := hide hr3
    have HT3 := hide hT3
    have HB3 := hide ((HB.out.trans (hB2'.mono HB.out.size)).trans hB3)
    obtain ⟨r0, r1, r2, r3, r4, r5, r6, r7⟩ := RAt.of (r := ⟨b0, b1, b2, b3, 0, (P : Int), (x2.size : Int)⟩) K2
    have l6 := K3.cell 6
    simp at l6
    simp only at r1 r2 r3 r4 r5 r6 r7
    clear hcp k0 k1 hbv k02 hB2 hB2' K2 K3 hr3 hT3 hB3 c0 c1 hT2 hkp hw2 HT HOWN
    refine wp_region_held_drew (S := (fun x => x.cell? ⟨wr.heap.size, 0, none⟩ = some (.string (tgS b0 b1 b2 b3)))) (by kernel_rfl) (HS1.out) (fun hHeld => ?_)
    refine takeW (i := 0) (d := 28) (v := .pointer (some ⟨wr.heap.size + 1, 0, none⟩)) rfl rfl (by kernel_rfl) (by kernel_rfl) (by kernel_rfl) (fun _ _ _ h => h) (by rfl) ?_ (by assumption) ?_
    · intro x hSx
      have q0 := hSx
      go_simp
    simp only [Act.put, List.setIfInBounds_toArray, List.set_cons_zero, List.set_cons_succ]
    refine takeW (i := 1) (d := 29) (v := .slice (some ⟨wr.heap.size + 1, 0, none⟩) 4 4) rfl rfl (by kernel_rfl) (by kernel_rfl) (by kernel_rfl) (fun _ _ _ h => h) (by rfl) ?_ (by assumption) ?_
    · intro x hSx
      have q0 := hSx
      go_simp
    simp only [Act.put, List.setIfInBounds_toArray, List.set_cons_zero, List.set_cons_succ]
    refine takeW (i := 2) (d := 30) (v := .pointer (some ⟨wr.heap.size, 0, none⟩)) rfl rfl (by kernel_rfl) (by kernel_rfl) (by kernel_rfl) (fun _ _ _ h => h) (by rfl) ?_ (by assumption) ?_
    · intro x hSx
      have q0 := hSx
      go_simp
    simp only [Act.put, List.setIfInBounds_toArray, List.set_cons_zero, List.set_cons_succ]
    refine takeW (i := 3) (d := 31) (v := .string (tgS b0 b1 b2 b3)) rfl rfl (by kernel_rfl) (by kernel_rfl) (by kernel_rfl) (fun _ _ _ h => h) (by rfl) ?_ (by assumption) ?_
    · intro x hSx
      have q0 := hSx
      go_simp
    simp only [Act.put, List.setIfInBounds_toArray, List.set_cons_zero, List.set_cons_succ]
    refine wpAnyH_ready (rs := [4]) (by kernel_rfl) (by simp) ?_
    refine AllReadyH.cons rfl (fun K hK => ?_) AllReadyH.nil
    rw [if_pos (by rfl)]
    refine Lib.wp_copy_run _ _ _ _ _ rfl _ _ rfl rfl HCP.out ?_
    refine hK.out _ _ HS2.out (fun hHeld => ?_)
    clear hK K
    refine wpAnyH_done (by kernel_rfl) ?_ _
    refine HA.out _ _ ?_
    clear HA HS1 HS2 HCP
    go_wp2_with (first | (at_builtin; refine Lib.wpList_append_run _ rfl _ _ _ _ rfl _ _ rfl rfl _ _ HR3.out ?_) | (go_at_call 143; refine (CF.out _ _ (by omega) (by omega)).mono ?_; rintro e w' ⟨rfl, hw'⟩; replace hw' := hw'.symm; subst hw'))
    go_roundw
    case rel =>
      refine ⟨k + 1, by go_num, ?_, hide ⟨by omega, ?_, HB3.out, ?_⟩⟩
      · rw [HPN.out]; go_num
      · rw [HLS.out, HLY.out]; exact HT3.out
      · intro i x hi hx
        rcases Nat.lt_or_ge i k with h | h
        · exact HALL.out i x h hx
        · obtain rfl : i = k := by omega
          rw [HX.out] at hx
          injection hx with hx
          rw [← hx]; rfl
    case measure => simp [intOf]; omega
end Go.Proofs.YtpdfpbbamnhkfaaGreatDoor.S8
namespace Go.Proofs.YtpdfpbbamnhkfaaGreatDoor.S8
open Go.RowKit Go.Deep
set_option linter.unusedVariables false
theorem eqS_hd (x : ByteArray) : eqS x ⟨#[104, 101, 97, 100]⟩ = (x.toList == [104, 101, 97, 100]) := by unfold eqS; rw [Lib.toList_data (⟨#[104, 101, 97, 100]⟩ : ByteArray)]
end Go.Proofs.YtpdfpbbamnhkfaaGreatDoor.S8
namespace Go.Proofs.YtpdfpbbamnhkfaaGreatDoor.S8
open Go.RowKit Go.Deep
set_option linter.unusedVariables false
set_option linter.unusedSimpArgs false
theorem nb_f4 (x : Int) : f4 x = nbT x 4 := by
  unfold f4
  simp only [nbT, nbB, List.cons_append, List.nil_append]
  have e1 : x / 65536 / 256 ^ 1 % 256 = x / 256 ^ 3 % 256 := by omega
  have e2 : x / 65536 / 256 ^ 0 % 256 = x / 256 ^ 2 % 256 := by omega
  rw [e1, e2]
theorem nb_mod (x : Int) : nbT (x % 4294967296) 4 = nbT x 4 := by
  simp only [nbT, nbB]
  have e0 : x % 4294967296 / 256 ^ 0 % 256 = x / 256 ^ 0 % 256 := by omega
  have e1 : x % 4294967296 / 256 ^ 1 % 256 = x / 256 ^ 1 % 256 := by omega
  have e2 : x % 4294967296 / 256 ^ 2 % 256 = x / 256 ^ 2 % 256 := by omega
  have e3 : x % 4294967296 / 256 ^ 3 % 256 = x / 256 ^ 3 % 256 := by omega
  rw [e0, e1, e2, e3]
theorem make_textG (T : Nat) (w : World) (hT : T ≤ 1048576) : ∃ w1, (Instr.makeSlice 128 (.int .i64 0) (.int .i64 (T : Int))).run Tryz.prog w = .ok (.slice (some ⟨w.heap.size, 0, none⟩) 0 T) w1 ∧ BRow w1 w.heap.size (.slice (some ⟨w.heap.size, 0, none⟩) 0 T) [] ∧ Below w.heap.size w w1 := by
  obtain ⟨i, hi, hz, h1, h2⟩ := info_parts5 info_u8
  obtain ⟨w1, a, b, c⟩ := run_make_own (P := Tryz.prog) w w.heap.size 128 5 i _ 1 Tryz.underlying128 hi hz h1 .i64 .i64 T (by rw [h2]; omega) (by unfold maxLen; omega) (Nat.le_refl _)
  exact ⟨w1, a, b, (Below.refl _ _).grown c (Nat.le_refl _) (fun k hk => by cases hk)⟩
theorem openT_len (n : Nat) : (openT n).length = 12 := by
  unfold openT opNums
  simp [nbT_len]
theorem brow_own {w : World} {B k : Nat} {v : Value} {ys : List UInt8} (h : BRow w B v ys) (e : v.ownBlock = some k) : ∃ cs, w.heap[k]? = some (.cells cs 5 (0, 0)) := by
  obtain ⟨_, ⟨h0, _⟩ | ⟨g, cap, cur, hv, _, hg, _⟩⟩ := h
  · rw [h0] at e; simp [Value.ownBlock] at e
  · rw [hv] at e
    have : g = k := by simpa [Value.ownBlock] using e
    subst this
    exact ⟨_, hg⟩
theorem brow_shape {w : World} {B : Nat} {v : Value} {ys : List UInt8} (h : BRow w B v ys) (hl : 0 < ys.length) : ∃ g cap, v = .slice (some ⟨g, 0, none⟩) ys.length cap ∧ B ≤ g ∧ g < w.heap.size ∧ ys.length ≤ cap ∧ cap ≤ 9223372036854775807 := by
  have h' := h
  obtain ⟨_, ⟨h0, h1⟩ | ⟨g, cap, cur, hv, hb, hg, hc, hm, _⟩⟩ := h'
  · omega
  · refine ⟨g, cap, hv, hb, ?_, hc, by unfold maxLen at hm; exact hm⟩
    rw [hv] at h
    exact (World.ownsRow.lt h g rfl).2
def txK (s : List UInt8) (o : Int) : List UInt8 := if 0 ≤ o then s.take o.toNat ++ (f4 ((2981146554 - ((sumV s : Nat) : Int)) % 4294967296) ++ s.drop (o.toNat + 4)) else s
theorem ow_none (m : List Tab) (hgo : goM m) : ∀ k, k < m.length → eqS (m.getD k tz).1 ⟨#[104, 101, 97, 100]⟩ = true → owK m k = -1 := by
  have key : ∀ k, owK m k = -1 ∨ ∃ j, j < k ∧ eqS (m.getD j tz).1 ⟨#[104, 101, 97, 100]⟩ = true := by
    intro k
    induction k with
    | zero => exact Or.inl rfl
    | succ k ih =>
      rw [owK]
      split
      · rename_i h
        rw [Bool.and_eq_true] at h
        exact Or.inr ⟨k, by omega, h.1⟩
      · rcases ih with h | ⟨j, h1, h2⟩
        · exact Or.inl h
        · exact Or.inr ⟨j, by omega, h2⟩
  intro k hk he
  rcases key k with h | ⟨j, h1, h2⟩
  · exact h
  · exfalso
    rw [getD_some m j (by omega), eqS_iff] at h2
    rw [getD_some m k hk, eqS_iff] at he
    exact st_ne ((go_iff m).1 hgo).2 h1 hk (h2.trans he.symm)
theorem row_facts (m : List Tab) (n k : Nat) (hn : m.length = n) (h4 : ∀ x ∈ m, x.1.size = 4) (hsz : plT m n ≤ 1048576) (hk : k < n) :
    ∃ (x1 x2 : ByteArray) (b0 b1 b2 b3 : UInt8) (P L : Nat) (D : ByteArray), m[k]? = some (x1, x2) ∧ x1 = tgS b0 b1 b2 b3 ∧ lyRw m k = ⟨b0, b1, b2, b3, 0, (P : Int), (L : Int)⟩ ∧ plT m k = P ∧ x2.size = L ∧ smS b0 b1 b2 b3 x2 = D ∧ dOf m k = D ∧ P + L ≤ 1048576 := by
  have hkl : k < m.length := by omega
  have hx : m[k]? = some m[k] := List.getElem?_eq_getElem hkl
  have hd := getD_some m k hkl
  obtain ⟨b0, b1, b2, b3, e⟩ := four_of (h4 m[k] (List.getElem_mem hkl))
  refine ⟨m[k].1, m[k].2, b0, b1, b2, b3, plT m k, m[k].2.size, _, hx, e, ?_, rfl, rfl, rfl, ?_, ?_⟩
  · unfold lyRw; rw [hd, e]; rfl
  · unfold dOf ownS; rw [hd, e]
  · have h1 := pl_next m k
    have h2 := pl_mono m (k + 1) (n - (k + 1))
    rw [show k + 1 + (n - (k + 1)) = n by omega] at h2
    have h3 : (dOf m k).size = m[k].2.size := by unfold dOf; rw [ownS_size, hd]
    omega
set_option maxRecDepth 8000 in
set_option maxHeartbeats 8000000 in
theorem write_any (g c b cap n : Nat) (m : List Tab) (w : World) (hn : m.length = n) (h1 : 1 ≤ n) (h2 : n ≤ 32) (hgo : goM m) (hsz : plT m n ≤ 1048576) (hg : g < w.heap.size)
    (hL : ∀ i x, m[i]? = some x → w.cell? ⟨g, i * 2, none⟩ = some (.string x.1) ∧ w.cell? ⟨g, i * 2 + 1, none⟩ = some (.string x.2)) (hR : RLst w b (lyRs m n)) (hG : Glo8 w) :
    Calls Tryz.prog 102 #[.slice (some ⟨g, 0, none⟩) n c, .slice (some ⟨b, 0, none⟩) n cap, .int .i64 (plT m n : Int)] w fun e w' => e = .returned (.string ⟨(txtV m).toArray⟩) ∧ Below w.heap.size w w' := by
  have h1' : (1 : Int) ≤ (n : Int) := by omega
  have h2' : (n : Int) ≤ 32 := by omega
  have hol : (openT n).length = 12 := openT_len n
  have hT1 : (plT m n : Int) ≤ 1048576 := by omega
  obtain ⟨w1, hmk, hb1, hB1⟩ := make_textG (plT m n) w hsz
  have CO := hide (opening_any n w1 (by omega) (by omega))
  have CF := hide (fun (x : Int) (w : World) h0 h1 => filled_any x w h0 h1)
  have HROW := hide (fun k hk => row_facts m n k hn hgo.1 hsz hk)
  have HROWL := hide (fun k (hk : k ≤ n) => row_len m (go_ok m hgo) k (by omega))
  have HG := hide hG
  have HRL := hide hR
  have HL := hide hL
  have HGO := hide hgo
  have HN := hide hn
  have HSZ := hide hsz
  have H12 := hide (And.intro h1 h2)
  have hbb := hR.1
  have HB1 := hide hB1
  have Hb1 := hide hb1
  have hTX : txtV m = txtV m := rfl
  obtain ⟨FIN, hFIN⟩ : ∃ F, txtV m = F := ⟨_, rfl⟩
  rw [hFIN]
  have HFIN := hide hFIN
  obtain ⟨OT, hOT⟩ : ∃ O, openT n = O := ⟨_, rfl⟩
  rw [hOT] at CO hol
  have HOT := hide hOT
  have HOL := hide hol
  obtain ⟨TT, hTT⟩ : ∃ T, plT m n = T := ⟨_, rfl⟩
  rw [hTT] at hmk hT1 Hb1 ⊢
  have HTT := hide hTT
  clear hG hL hB1 hb1 hR hgo hn hsz h1 h2 hTX hFIN hOT hTT
  go_enter Tryz.func102, Tryz.ntmps102
  go_wp2_with fail
  refine CO.out.mono ?_
  rintro e w2 ⟨rfl, hB2⟩
  obtain ⟨v3, w3, hr3, hb3, hk3⟩ := app_s3 ⟨OT.toArray⟩ (Hb1.out.later hB2) (Nat.le_trans HB1.out.size hB2.size) (by rw [Lib.size_eq]; show _ + OT.length ≤ _; rw [hol]; simp)
  have HR3 := hide hr3
  have HB3 := hide ((below_t5 HB1.out hB2).trans hk3.below)
  have Hb3 := hide (show BRow w3 w.heap.size v3 OT by simpa using hb3)
  clear hB2 hr3 hb3 hk3 hmk hol
  generalize (⟨OT.toArray⟩ : ByteArray) = OB at HR3 ⊢
  go_wp2_with (at_builtin; refine Lib.wpList_append_run _ rfl _ _ _ _ rfl _ _ rfl rfl _ _ HR3.out ?_)
  clear HR3 HB1 Hb1
  go_loopw [7, 24] (fun vt vi wr => ∃ k : Nat, vi = .int .i64 k ∧ Hid (k ≤ n ∧ BRow wr w.heap.size vt (OT ++ rowT m k) ∧ Below w.heap.size w wr)) (fun _ vi _ => n - (intOf vi).toNat)
  case atStart => exact ⟨0, rfl, hide ⟨by omega, by rw [rowT, List.append_nil]; exact Hb3.out, HB3.out⟩⟩
  case round =>
    obtain ⟨vt, hvt⟩ : ∃ v, v = u7 := ⟨_, rfl⟩
    subst hvt
    obtain ⟨k, rfl, HV⟩ := hrel
    obtain ⟨hk, hT, hbw⟩ := HV.out
    have hk0 : (0 : Int) ≤ (k : Int) := by omega
    clear HV
    by_cases hlt : k < n
    case pos =>
      have hlt' : (k : Int) < (n : Int) := by omega
      obtain ⟨x1, x2, b0, b1, b2, b3, P, L, D, hx, rfl, hly, hP, hL2, hD, hDk, hPL⟩ := HROW.out k hlt
      obtain ⟨g0, g1, g2, g3, g4, g5, g6⟩ := (HRL.out.kept hbw hbb).2 k _ (lyRs_at m n k hlt)
      rw [hly] at g0 g1 g2 g3 g4 g5 g6
      simp only at g0 g1 g2 g3 g4 g5 g6
      obtain ⟨_, c1⟩ := HL.out k _ hx
      have hgw : g < wr.heap.size := Nat.lt_of_lt_of_le hg hbw.size
      have hbr : b < wr.heap.size := Nat.lt_of_lt_of_le hbb hbw.size
      have hne1 : b ≠ wr.heap.size := by omega
      have hP' : (P : Int) ≤ 1048576 := by omega
      have hL' : (L : Int) ≤ 1048576 := by omega
      have HC1 := hide (show ∀ y : World, Below w.heap.size w y → y.cell? ⟨g, k * 2 + 1, none⟩ = some (.string x2) from fun y hy => by rw [hy.cell (p := ⟨g, k * 2 + 1, none⟩) hg]; exact c1)
      have HBW := hide hbw
      have HT := hide hT
      obtain ⟨SU, hSU⟩ : ∃ SU : Nat, sumV D.data.toList = SU := ⟨_, rfl⟩
      have hSUb : (SU : Int) ≤ 4294967295 := by have := sumV_lt D.data.toList; omega
      have CSu := hide (show ∀ (w : World), Calls Tryz.prog 146 #[.string D] w fun e w' => e = .returned (.int .i64 (SU : Int)) ∧ w' = w from fun w => by
        have hh := sum_any D w (by rw [← hD, smS_size]; omega)
        rw [hSU] at hh
        exact hh)
      have CS := hide (show ∀ (w : World), Glo8 w → Calls Tryz.prog 147 #[.agg (tgC b0 b1 b2 b3), .string x2] w fun e w' => e = .returned (.string D) ∧ Below w.heap.size w w' from fun w hg => by
        have hh := summed_any b0 b1 b2 b3 x2 w hg (by omega)
        rw [hD] at hh
        exact hh)
      have CA := hide (fun v ys w' => appendTo_any ⟨b0, b1, b2, b3, (SU : Int), (P : Int), (L : Int)⟩ v ys w.heap.size w' (by unfold RwOk; simp only; omega))
      have HTX := hide (show OT ++ rowT m (k + 1) = OT ++ rowT m k ++ tgT ⟨b0, b1, b2, b3, (SU : Int), (P : Int), (L : Int)⟩ ++ nbT (SU : Int) 4 ++ nbT (P : Int) 4 ++ nbT (L : Int) 4 by
        rw [rowT, hDk, hSU, hP, nb_f4, nb_f4, nb_f4, show (D.size : Int) = (L : Int) by rw [← hD, smS_size]; omega, show (m.getD k tz).1 = tgS b0 b1 b2 b3 by rw [List.getD_eq_getElem?_getD, hx]; rfl]
        simp [tgT])
      have HRT := hide (show (OT ++ rowT m k).length ≤ 100000000 by rw [List.length_append, HROWL.out k hk]; have := HOL.out; omega)
      clear hT hbw hx hly hP hL2 hD hDk hPL c1 hSU hk hlt
      go_wp2_with fail
      rename_i kk0
      have HA := hide kk0
      clear kk0
      have kb := Blk.new wr (rC b0 b1 b2 b3 0 (P : Int) (L : Int)) 178
      have hbv : Below wr.heap.size wr (wr.alloc (.cells (rC b0 b1 b2 b3 0 (P : Int) (L : Int)) 178)) := (Below.refl _ _).alloc (Nat.le_refl _) _
      generalize wr.alloc (.cells (rC b0 b1 b2 b3 0 (P : Int) (L : Int)) 178) = V at kb hbv ⊢
      have KS := hide (show ∀ y, Below V.heap.size V y → (fun y => y.cell? ⟨wr.heap.size, 0, none⟩ = some (.int .u8 (b0.toNat : Int)) ∧ y.cell? ⟨wr.heap.size, 1, none⟩ = some (.int .u8 (b1.toNat : Int)) ∧ y.cell? ⟨wr.heap.size, 2, none⟩ = some (.int .u8 (b2.toNat : Int)) ∧ y.cell? ⟨wr.heap.size, 3, none⟩ = some (.int .u8 (b3.toNat : Int)) ∧ y.cell? ⟨g, k * 2 + 1, none⟩ = some (.string x2)) y from fun y hy => ⟨(kb.below hy).cell 0, (kb.below hy).cell 1, (kb.below hy).cell 2, (kb.below hy).cell 3, HC1.out _ (HBW.out.trans ((below_t5 hbv hy).mono HBW.out.size))⟩)
      have HGV := hide (HG.out.below (HBW.out.trans (hbv.mono HBW.out.size)))
      have HB := hide (Below.refl V.heap.size V)
      have HBV := hide hbv
      have HKV := hide kb
      clear kb hbv g0 g1 g2 g3 g4 g5 g6
      refine wp_region_held_drew (S := (fun y => y.cell? ⟨wr.heap.size, 0, none⟩ = some (.int .u8 (b0.toNat : Int)) ∧ y.cell? ⟨wr.heap.size, 1, none⟩ = some (.int .u8 (b1.toNat : Int)) ∧ y.cell? ⟨wr.heap.size, 2, none⟩ = some (.int .u8 (b2.toNat : Int)) ∧ y.cell? ⟨wr.heap.size, 3, none⟩ = some (.int .u8 (b3.toNat : Int)) ∧ y.cell? ⟨g, k * 2 + 1, none⟩ = some (.string x2))) (by kernel_rfl) (KS.out _ ((Below.refl _ _).drew)) (fun hHeld => ?_)
      refine takeW (i := 0) (d := 29) (v := .pointer (some ⟨wr.heap.size, 0, none⟩)) rfl rfl (by kernel_rfl) (by kernel_rfl) (by kernel_rfl) (fun _ _ _ h => h) (by rfl) ?_ (by assumption) ?_
      · intro x hSx
        obtain ⟨q0, q1, q2, q3, q4⟩ := hSx
        go_simp
      simp only [Act.put, List.setIfInBounds_toArray, List.set_cons_zero, List.set_cons_succ]
      refine takeW (i := 1) (d := 30) (v := .agg (tgC b0 b1 b2 b3)) rfl rfl (by kernel_rfl) (by kernel_rfl) (by kernel_rfl) (fun _ _ _ h => h) (by rfl) ?_ (by assumption) ?_
      · intro x hSx
        obtain ⟨q0, q1, q2, q3, q4⟩ := hSx
        go_simp
      simp only [Act.put, List.setIfInBounds_toArray, List.set_cons_zero, List.set_cons_succ]
      refine takeW (i := 2) (d := 31) (v := .slice (some ⟨g, 0, none⟩) n c) rfl rfl (by kernel_rfl) (by kernel_rfl) (by kernel_rfl) (fun _ _ _ h => h) (by rfl) ?_ (by assumption) ?_
      · intro x hSx
        obtain ⟨q0, q1, q2, q3, q4⟩ := hSx
        go_simp
      simp only [Act.put, List.setIfInBounds_toArray, List.set_cons_zero, List.set_cons_succ]
      refine takeW (i := 3) (d := 32) (v := .int .i64 (k : Int)) rfl rfl (by kernel_rfl) (by kernel_rfl) (by kernel_rfl) (fun _ _ _ h => h) (by rfl) ?_ (by assumption) ?_
      · intro x hSx
        obtain ⟨q0, q1, q2, q3, q4⟩ := hSx
        go_simp
      simp only [Act.put, List.setIfInBounds_toArray, List.set_cons_zero, List.set_cons_succ]
      refine takeW (i := 4) (d := 33) (v := .pointer (some ⟨g, k * 2, none⟩)) rfl rfl (by kernel_rfl) (by kernel_rfl) (by kernel_rfl) (fun _ _ _ h => h) (by rfl) ?_ (by assumption) ?_
      · intro x hSx
        obtain ⟨q0, q1, q2, q3, q4⟩ := hSx
        go_simp
      simp only [Act.put, List.setIfInBounds_toArray, List.set_cons_zero, List.set_cons_succ]
      refine takeW (i := 5) (d := 34) (v := .pointer (some ⟨g, k * 2 + 1, none⟩)) rfl rfl (by kernel_rfl) (by kernel_rfl) (by kernel_rfl) (fun _ _ _ h => h) (by rfl) ?_ (by assumption) ?_
      · intro x hSx
        obtain ⟨q0, q1, q2, q3, q4⟩ := hSx
        go_simp
      simp only [Act.put, List.setIfInBounds_toArray, List.set_cons_zero, List.set_cons_succ]
      refine takeW (i := 6) (d := 35) (v := .string x2) rfl rfl (by kernel_rfl) (by kernel_rfl) (by kernel_rfl) (fun _ _ _ h => h) (by rfl) ?_ (by assumption) ?_
      · intro x hSx
        obtain ⟨q0, q1, q2, q3, q4⟩ := hSx
        go_simp
      simp only [Act.put, List.setIfInBounds_toArray, List.set_cons_zero, List.set_cons_succ]
      refine wpAnyH_ready (rs := [7]) (by kernel_rfl) (by simp) ?_
      refine AllReadyH.cons rfl (fun K hK => ?_) AllReadyH.nil
      rw [if_pos (by rfl)]
      go_simp
      go_at_call 147
      refine (CS.out _ ?_).mono ?_
      · exact HGV.out.below (below_d HB.out (Below.refl _ _) rfl rfl rfl rfl)
      rintro e y ⟨rfl, hbx⟩
      replace HB := hide (below_d HB.out hbx rfl rfl rfl rfl)
      clear hbx
      refine hK.out _ _ (KS.out _ HB.out) (fun hHeld => ?_)
      clear hK K
      refine wpAnyH_ready (rs := [8]) (by kernel_rfl) (by simp) ?_
      refine AllReadyH.cons rfl (fun K hK => ?_) AllReadyH.nil
      rw [if_pos (by rfl)]
      go_simp
      go_at_call 146
      refine (CSu.out _).mono ?_
      rintro e y9 ⟨rfl, hy9⟩
      replace hy9 := hy9.symm
      subst hy9
      refine hK.out _ _ (KS.out _ HB.out) (fun hHeld => ?_)
      clear hK K
      refine takeW (i := 9) (d := 38) (v := .pointer (some ⟨wr.heap.size, 4, none⟩)) rfl rfl (by kernel_rfl) (by kernel_rfl) (by kernel_rfl) (fun _ _ _ h => h) (by rfl) ?_ (by assumption) ?_
      · intro x hSx
        obtain ⟨q0, q1, q2, q3, q4⟩ := hSx
        go_simp
      simp only [Act.put, List.setIfInBounds_toArray, List.set_cons_zero, List.set_cons_succ]
      refine wpAnyH_ready (rs := [10]) (by kernel_rfl) (by simp) ?_
      refine AllReadyH.cons rfl (fun K hK => ?_) AllReadyH.nil
      have ky := HKV.out.below HB.out
      have f4 := ky.frozen 4
      have y4 := ky.cell 4
      simp at y4
      rw [if_pos (by rfl)]
      go_simp
      have K5 := ky.set 4 (.int .i64 (SU : Int))
      have B5 : Below wr.heap.size wr (y.setCell ⟨wr.heap.size, 4, none⟩ (.int .i64 (SU : Int))) := (below_t5 HBV.out HB.out).setCell (p := ⟨wr.heap.size, 4, none⟩) (Nat.le_refl _) _
      clear y4 f4 ky
      generalize y.setCell ⟨wr.heap.size, 4, none⟩ (.int .i64 (SU : Int)) = W5 at K5 B5 ⊢
      replace K5 : Blk W5 wr.heap.size (rwC ⟨b0, b1, b2, b3, (SU : Int), (P : Int), (L : Int)⟩) 178 := K5
      refine hK.out _ _ ⟨K5.cell 0, K5.cell 1, K5.cell 2, K5.cell 3, HC1.out _ (HBW.out.trans (B5.mono HBW.out.size))⟩ (fun hHeld => ?_)
      clear hK K
      refine wpAnyH_done (by kernel_rfl) ?_ _
      refine HA.out _ _ ?_
      clear HA KS HGV HB HKV
      obtain ⟨_, g0, g1, g2, g3, g4, g5, g6⟩ := RAt.of K5
      simp only at g0 g1 g2 g3 g4 g5 g6
      have Hb5 := hide (HT.out.later B5)
      have HB5 := hide (HBW.out.trans (B5.mono HBW.out.size))
      clear K5 B5 HBV
      go_wp2_with fail
      refine (CA.out _ _ _ Hb5.out HB5.out.size HRT.out).mono ?_
      rintro e w6 ⟨v6, rfl, hb6, hk6⟩
      have Hb6 := hide hb6
      have HB6 := hide (HB5.out.trans hk6.below)
      clear hb6 hk6 g0 g1 g2 g3 g4 g5 g6
      go_wp2_with fail
      go_roundw
      case rel => exact ⟨k + 1, by go_num, hide ⟨by omega, by rw [HTX.out]; exact Hb6.out, HB6.out⟩⟩
      case measure => simp [intOf]; omega
    case neg =>
    obtain rfl : n = k := by omega
    have hlt' : ¬ (n : Int) < (n : Int) := by omega
    have Hb4 := hide hT
    have HB4 := hide hbw
    clear hT hbw hk
    go_wp2_with fail
    go_loopw [7, 45] (fun vt vi wr => ∃ k : Nat, vi = .int .i64 k ∧ Hid (k ≤ n ∧ BRow wr w.heap.size vt (OT ++ rowT m n ++ bodT m k) ∧ Below w.heap.size w wr)) (fun _ vi _ => n - (intOf vi).toNat)
    case atStart => exact ⟨0, rfl, hide ⟨by omega, by rw [bodT, List.append_nil]; exact Hb4.out, HB4.out⟩⟩
    case round =>
      clear Hb4 HB4 Hb3 HB3
      obtain ⟨vt, hvt⟩ : ∃ v, v = u7 := ⟨_, rfl⟩
      subst hvt
      obtain ⟨k, rfl, HV⟩ := hrel
      obtain ⟨hk, hT, hbw⟩ := HV.out
      have hk0 : (0 : Int) ≤ (k : Int) := by omega
      clear HV
      by_cases hlt : k < n
      case pos =>
        have hlt' : (k : Int) < (n : Int) := by omega
        obtain ⟨x1, x2, b0, b1, b2, b3, P, L, D, hx, rfl, hly, hP, hL2, hD, hDk, hPL⟩ := HROW.out k hlt
        obtain ⟨g0, g1, g2, g3, g4, g5, g6⟩ := (HRL.out.kept hbw hbb).2 k _ (lyRs_at m n k hlt)
        rw [hly] at g0 g1 g2 g3 g4 g5 g6
        simp only at g0 g1 g2 g3 g4 g5 g6
        obtain ⟨_, c1⟩ := HL.out k _ hx
        have hgw : g < wr.heap.size := Nat.lt_of_lt_of_le hg hbw.size
        have hbr : b < wr.heap.size := Nat.lt_of_lt_of_le hbb hbw.size
        have hne1 : b ≠ wr.heap.size := by omega
        have hP' : (P : Int) ≤ 1048576 := by omega
        have hL' : (L : Int) ≤ 1048576 := by omega
        have HC1 := hide (show ∀ y : World, Below w.heap.size w y → y.cell? ⟨g, k * 2 + 1, none⟩ = some (.string x2) from fun y hy => by rw [hy.cell (p := ⟨g, k * 2 + 1, none⟩) hg]; exact c1)
        have HBW := hide hbw
        have HT := hide hT
        have CS := hide (show ∀ (w : World), Glo8 w → Calls Tryz.prog 147 #[.agg (tgC b0 b1 b2 b3), .string x2] w fun e w' => e = .returned (.string D) ∧ Below w.heap.size w w' from fun w hg => by
          have hh := summed_any b0 b1 b2 b3 x2 w hg (by omega)
          rw [hD] at hh
          exact hh)
        have hDs : D.size = L := by rw [← hD, smS_size]; exact hL2
        obtain ⟨Z, hZ⟩ : ∃ Z, (4 - L % 4) % 4 = Z := ⟨_, rfl⟩
        have hZ3 : Z ≤ 3 := by omega
        obtain ⟨FL, hFL⟩ : ∃ F : Int, ((L : Int) + 3) / 4 * 4 = F := ⟨_, rfl⟩
        have hFZ : FL - (L : Int) = (Z : Int) := by omega
        have hFb : FL ≤ 2000000 := by omega
        have hFb0 : 0 ≤ FL := by omega
        have CFl := hide (show ∀ (w : World), Calls Tryz.prog 143 #[.int .i64 (L : Int)] w fun e w' => e = .returned (.int .i64 FL) ∧ w' = w from fun w => by
          have hh := CF.out (L : Int) w (by omega) (by omega)
          rw [hFL] at hh
          exact hh)
        have HTX := hide (show OT ++ rowT m n ++ bodT m (k + 1) = OT ++ rowT m n ++ bodT m k ++ D.data.toList ++ List.replicate Z 0 by
          rw [bodT, hDk]
          unfold padT
          rw [← Lib.size_eq, hDs, hZ]
          simp)
        have HTL := hide (show (OT ++ rowT m n ++ bodT m k).length + D.size ≤ 3000000 by
          have e := HROWL.out n (Nat.le_refl _)
          have e2 : plT m k = 12 + 16 * m.length + (bodT m k).length := rfl
          rw [List.length_append, List.length_append, e, HOL.out]
          have := H12.out
          omega)
        clear hT hbw hx hly hP hL2 hD hDk hPL c1 hk hlt hDs hZ hFL
        go_wp2_with fail
        rename_i kk0
        have HA := hide kk0
        clear kk0
        have kb := Blk.new wr (rC b0 b1 b2 b3 0 (P : Int) (L : Int)) 178
        have hbv : Below wr.heap.size wr (wr.alloc (.cells (rC b0 b1 b2 b3 0 (P : Int) (L : Int)) 178)) := (Below.refl _ _).alloc (Nat.le_refl _) _
        generalize wr.alloc (.cells (rC b0 b1 b2 b3 0 (P : Int) (L : Int)) 178) = V at kb hbv ⊢
        have KS := hide (show ∀ y, Below V.heap.size V y → (fun y => y.cell? ⟨wr.heap.size, 0, none⟩ = some (.int .u8 (b0.toNat : Int)) ∧ y.cell? ⟨wr.heap.size, 1, none⟩ = some (.int .u8 (b1.toNat : Int)) ∧ y.cell? ⟨wr.heap.size, 2, none⟩ = some (.int .u8 (b2.toNat : Int)) ∧ y.cell? ⟨wr.heap.size, 3, none⟩ = some (.int .u8 (b3.toNat : Int)) ∧ y.cell? ⟨g, k * 2 + 1, none⟩ = some (.string x2)) y from fun y hy => ⟨(kb.below hy).cell 0, (kb.below hy).cell 1, (kb.below hy).cell 2, (kb.below hy).cell 3, HC1.out _ (HBW.out.trans ((below_t5 hbv hy).mono HBW.out.size))⟩)
        have HGV := hide (HG.out.below (HBW.out.trans (hbv.mono HBW.out.size)))
        have HB := hide (Below.refl V.heap.size V)
        have HBV := hide hbv
        have HKV := hide kb
        clear kb hbv g0 g1 g2 g3 g4 g5 g6
        refine wp_region_held_drew (S := (fun y => y.cell? ⟨wr.heap.size, 0, none⟩ = some (.int .u8 (b0.toNat : Int)) ∧ y.cell? ⟨wr.heap.size, 1, none⟩ = some (.int .u8 (b1.toNat : Int)) ∧ y.cell? ⟨wr.heap.size, 2, none⟩ = some (.int .u8 (b2.toNat : Int)) ∧ y.cell? ⟨wr.heap.size, 3, none⟩ = some (.int .u8 (b3.toNat : Int)) ∧ y.cell? ⟨g, k * 2 + 1, none⟩ = some (.string x2))) (by kernel_rfl) (KS.out _ ((Below.refl _ _).drew)) (fun hHeld => ?_)
        refine takeW (i := 0) (d := 50) (v := vt) rfl rfl (by kernel_rfl) (by kernel_rfl) (by kernel_rfl) (fun _ _ _ h => h) (by rfl) ?_ (by assumption) ?_
        · intro x hSx
          obtain ⟨q0, q1, q2, q3, q4⟩ := hSx
          go_simp
        simp only [Act.put, List.setIfInBounds_toArray, List.set_cons_zero, List.set_cons_succ]
        refine takeW (i := 1) (d := 51) (v := .pointer (some ⟨wr.heap.size, 0, none⟩)) rfl rfl (by kernel_rfl) (by kernel_rfl) (by kernel_rfl) (fun _ _ _ h => h) (by rfl) ?_ (by assumption) ?_
        · intro x hSx
          obtain ⟨q0, q1, q2, q3, q4⟩ := hSx
          go_simp
        simp only [Act.put, List.setIfInBounds_toArray, List.set_cons_zero, List.set_cons_succ]
        refine takeW (i := 2) (d := 52) (v := .agg (tgC b0 b1 b2 b3)) rfl rfl (by kernel_rfl) (by kernel_rfl) (by kernel_rfl) (fun _ _ _ h => h) (by rfl) ?_ (by assumption) ?_
        · intro x hSx
          obtain ⟨q0, q1, q2, q3, q4⟩ := hSx
          go_simp
        simp only [Act.put, List.setIfInBounds_toArray, List.set_cons_zero, List.set_cons_succ]
        refine takeW (i := 3) (d := 53) (v := .slice (some ⟨g, 0, none⟩) n c) rfl rfl (by kernel_rfl) (by kernel_rfl) (by kernel_rfl) (fun _ _ _ h => h) (by rfl) ?_ (by assumption) ?_
        · intro x hSx
          obtain ⟨q0, q1, q2, q3, q4⟩ := hSx
          go_simp
        simp only [Act.put, List.setIfInBounds_toArray, List.set_cons_zero, List.set_cons_succ]
        refine takeW (i := 4) (d := 54) (v := .int .i64 (k : Int)) rfl rfl (by kernel_rfl) (by kernel_rfl) (by kernel_rfl) (fun _ _ _ h => h) (by rfl) ?_ (by assumption) ?_
        · intro x hSx
          obtain ⟨q0, q1, q2, q3, q4⟩ := hSx
          go_simp
        simp only [Act.put, List.setIfInBounds_toArray, List.set_cons_zero, List.set_cons_succ]
        refine takeW (i := 5) (d := 55) (v := .pointer (some ⟨g, k * 2, none⟩)) rfl rfl (by kernel_rfl) (by kernel_rfl) (by kernel_rfl) (fun _ _ _ h => h) (by rfl) ?_ (by assumption) ?_
        · intro x hSx
          obtain ⟨q0, q1, q2, q3, q4⟩ := hSx
          go_simp
        simp only [Act.put, List.setIfInBounds_toArray, List.set_cons_zero, List.set_cons_succ]
        refine takeW (i := 6) (d := 56) (v := .pointer (some ⟨g, k * 2 + 1, none⟩)) rfl rfl (by kernel_rfl) (by kernel_rfl) (by kernel_rfl) (fun _ _ _ h => h) (by rfl) ?_ (by assumption) ?_
        · intro x hSx
          obtain ⟨q0, q1, q2, q3, q4⟩ := hSx
          go_simp
        simp only [Act.put, List.setIfInBounds_toArray, List.set_cons_zero, List.set_cons_succ]
        refine takeW (i := 7) (d := 57) (v := .string x2) rfl rfl (by kernel_rfl) (by kernel_rfl) (by kernel_rfl) (fun _ _ _ h => h) (by rfl) ?_ (by assumption) ?_
        · intro x hSx
          obtain ⟨q0, q1, q2, q3, q4⟩ := hSx
          go_simp
        simp only [Act.put, List.setIfInBounds_toArray, List.set_cons_zero, List.set_cons_succ]
        refine wpAnyH_ready (rs := [8]) (by kernel_rfl) (by simp) ?_
        refine AllReadyH.cons rfl (fun K hK => ?_) AllReadyH.nil
        rw [if_pos (by rfl)]
        go_simp
        go_at_call 147
        refine (CS.out _ ?_).mono ?_
        · exact HGV.out.below (below_d HB.out (Below.refl _ _) rfl rfl rfl rfl)
        rintro e y ⟨rfl, hbx⟩
        replace HB := hide (below_d HB.out hbx rfl rfl rfl rfl)
        clear hbx
        refine hK.out _ _ (KS.out _ HB.out) (fun hHeld => ?_)
        clear hK K
        refine wpAnyH_ready (rs := [9]) (by kernel_rfl) (by simp) ?_
        refine AllReadyH.cons rfl (fun K hK => ?_) AllReadyH.nil
        have hyw := below_t5 HBV.out HB.out
        obtain ⟨v7, w7, hr7, hb7, hk7⟩ := app_s3 D (HT.out.later hyw) (Nat.le_trans HBW.out.size hyw.size) (by have := HTL.out; omega)
        have HR7 := hide hr7
        have k7 := (HKV.out.below HB.out).nb hk7.nb tr_ne
        have B7 : Below w.heap.size w w7 := (HBW.out.trans (hyw.mono HBW.out.size)).trans hk7.below
        have Hb7 := hide hb7
        clear hr7 hb7 hk7 hyw
        refine step_append_run _ (by rfl) _ _ _ _ (by rfl) _ _ (by rfl) (by rfl) _ _ HR7.out ?_
        refine hK.out _ _ ⟨k7.cell 0, k7.cell 1, k7.cell 2, k7.cell 3, HC1.out _ B7⟩ (fun hHeld => ?_)
        simp only [List.getElem_toArray, List.getElem_cons_succ, List.getElem_cons_zero, Act.put, List.setIfInBounds_toArray, List.set_cons_zero, List.set_cons_succ]
        clear hK K
        refine takeW (i := 10) (d := 7) (v := v7) rfl rfl (by kernel_rfl) (by kernel_rfl) (by kernel_rfl) (fun _ _ _ h => h) (by rfl) ?_ (by assumption) ?_
        · intro x hSx
          obtain ⟨q0, q1, q2, q3, q4⟩ := hSx
          go_simp
        simp only [Act.put, List.setIfInBounds_toArray, List.set_cons_zero, List.set_cons_succ]
        refine wpAnyH_done (by kernel_rfl) ?_ _
        refine HA.out _ _ ?_
        clear HA KS HGV HB HKV HBV
        have l6 := k7.cell 6
        simp at l6
        have HL7 := hide (show w7.drew.cell? ⟨wr.heap.size, 6, none⟩ = some (.int .i64 (L : Int)) from l6)
        obtain ⟨v8, w8, hr8, hg8⟩ := app_z4 (W := w7.drew) Z Hb7.out B7.size hZ3 (by rw [List.length_append, ← Lib.size_eq]; have := HTL.out; omega)
        have HR8 := hide hr8
        have Hb8 := hide hg8.1
        have m6 : w8.cell? ⟨wr.heap.size, 6, none⟩ = some (.int .i64 (L : Int)) := by
          have h8 := hg8.2.2.2.1 wr.heap.size (show wr.heap.size < w7.drew.heap.size from k7.lt) (fun e => by
            have hc := brow_own Hb7.out e
            rw [show w7.heap[wr.heap.size]? = _ from k7] at hc
            obtain ⟨cs, hc⟩ := hc
            injection hc with hc
            injection hc with _ hc _
            exact tr_ne hc)
          unfold World.cell? at l6 ⊢
          rw [h8]; exact l6
        have HL8 := hide m6
        have HB8 := hide (B7.drew.trans hg8.2.2.2.2)
        clear k7 l6 m6 hr8 hg8 B7
        go_wp2_with fail
        rename_i kk0 kk1 kk2 kk3
        have HA := hide kk0
        clear kk0
        refine wp_region_held_drew (S := (fun y => y.cell? ⟨wr.heap.size, 6, none⟩ = some (.int .i64 (L : Int)))) (by kernel_rfl) (HL7.out) (fun hHeld => ?_)
        refine takeW (i := 0) (d := 60) (v := v7) rfl rfl (by kernel_rfl) (by kernel_rfl) (by kernel_rfl) (fun _ _ _ h => h) (by rfl) ?_ (by assumption) ?_
        · intro x hSx
          have q0 := hSx
          go_simp
        simp only [Act.put, List.setIfInBounds_toArray, List.set_cons_zero, List.set_cons_succ]
        refine takeW (i := 1) (d := 61) (v := .pointer (some ⟨wr.heap.size, 6, none⟩)) rfl rfl (by kernel_rfl) (by kernel_rfl) (by kernel_rfl) (fun _ _ _ h => h) (by rfl) ?_ (by assumption) ?_
        · intro x hSx
          have q0 := hSx
          go_simp
        simp only [Act.put, List.setIfInBounds_toArray, List.set_cons_zero, List.set_cons_succ]
        refine takeW (i := 2) (d := 62) (v := .int .i64 (L : Int)) rfl rfl (by kernel_rfl) (by kernel_rfl) (by kernel_rfl) (fun _ _ _ h => h) (by rfl) ?_ (by assumption) ?_
        · intro x hSx
          have q0 := hSx
          go_simp
        simp only [Act.put, List.setIfInBounds_toArray, List.set_cons_zero, List.set_cons_succ]
        refine takeW (i := 4) (d := 64) (v := .pointer (some ⟨wr.heap.size, 6, none⟩)) rfl rfl (by kernel_rfl) (by kernel_rfl) (by kernel_rfl) (fun _ _ _ h => h) (by rfl) ?_ (by assumption) ?_
        · intro x hSx
          have q0 := hSx
          go_simp
        simp only [Act.put, List.setIfInBounds_toArray, List.set_cons_zero, List.set_cons_succ]
        refine takeW (i := 5) (d := 65) (v := .int .i64 (L : Int)) rfl rfl (by kernel_rfl) (by kernel_rfl) (by kernel_rfl) (fun _ _ _ h => h) (by rfl) ?_ (by assumption) ?_
        · intro x hSx
          have q0 := hSx
          go_simp
        simp only [Act.put, List.setIfInBounds_toArray, List.set_cons_zero, List.set_cons_succ]
        refine wpAnyH_ready (rs := [3]) (by kernel_rfl) (by simp) ?_
        refine AllReadyH.cons rfl (fun K hK => ?_) AllReadyH.nil
        rw [if_pos (by rfl)]
        go_simp
        go_at_call 143
        refine (CFl.out _).mono ?_
        rintro e y9 ⟨rfl, hy9⟩
        replace hy9 := hy9.symm
        subst hy9
        refine hK.out _ _ hHeld (fun hHeld => ?_)
        clear hK K
        refine takeW (i := 6) (d := 66) (v := .int .i64 (Z : Int)) rfl rfl (by kernel_rfl) (by kernel_rfl) (by kernel_rfl) (fun _ _ _ h => h) (by rfl) ?_ (by assumption) ?_
        · intro x hSx
          have q0 := hSx
          go_simp
          exact wraps_i64 _ (by omega) (by omega)
        simp only [Act.put, List.setIfInBounds_toArray, List.set_cons_zero, List.set_cons_succ]
        refine wpAnyH_ready (rs := [7]) (by kernel_rfl) (by simp) ?_
        refine AllReadyH.cons rfl (fun K hK => ?_) AllReadyH.nil
        refine step_append_run _ (by rfl) _ _ _ _ (by rfl) _ _ (by rfl) (by rfl) _ _ HR8.out ?_
        refine hK.out _ _ HL8.out (fun hHeld => ?_)
        simp only [List.getElem_toArray, List.getElem_cons_succ, List.getElem_cons_zero, Act.put, List.setIfInBounds_toArray, List.set_cons_zero, List.set_cons_succ]
        clear hK K
        refine takeW (i := 8) (d := 7) (v := v8) rfl rfl (by kernel_rfl) (by kernel_rfl) (by kernel_rfl) (fun _ _ _ h => h) (by rfl) ?_ (by assumption) ?_
        · intro x hSx
          have q0 := hSx
          go_simp
        simp only [Act.put, List.setIfInBounds_toArray, List.set_cons_zero, List.set_cons_succ]
        refine wpAnyH_done (by kernel_rfl) ?_ _
        refine HA.out _ _ ?_
        clear HA
        go_wp2_with fail
        go_roundw
        case rel => exact ⟨k + 1, by go_num, hide ⟨by omega, by rw [HTX.out]; exact Hb8.out, HB8.out⟩⟩
        case measure => simp [intOf]; omega
      case neg =>
      obtain rfl : n = k := by omega
      have hlt' : ¬ (n : Int) < (n : Int) := by omega
      have Hb5 := hide hT
      have HB5 := hide hbw
      clear hT hbw hk
      go_wp2_with fail
      obtain ⟨SS, hSS⟩ : ∃ S, OT ++ rowT m n ++ bodT m n = S := ⟨_, rfl⟩
      rw [hSS] at Hb5
      have hSL : SS.length = TT := by
        have e := HROWL.out n (Nat.le_refl _)
        have e2 : plT m n = 12 + 16 * m.length + (bodT m n).length := rfl
        rw [← hSS, List.length_append, List.length_append, e, HOL.out, ← HTT.out, e2, HN.out]
      have hTT12 : 12 ≤ TT := by
        have e2 : plT m n = 12 + 16 * m.length + (bodT m n).length := rfl
        rw [← HTT.out, e2]; omega
      obtain ⟨gt, ct, hvt, hgt1, hgt2, hct1, hct2⟩ := brow_shape Hb5.out (by rw [hSL]; omega)
      rw [hSL] at hvt hct1
      subst hvt
      have hct1' : (TT : Int) ≤ (ct : Int) := by omega
      have hct2' : (ct : Int) ≤ 9223372036854775807 := by omega
      have HSS := hide hSS
      have HSL := hide hSL
      have HGT := hide (And.intro hgt1 hct1)
      have HFN := hide (show txK SS (owK m n) = FIN by
        rw [← HFIN.out]
        unfold txtV txK
        rw [HN.out, HOT.out, ← hSS, List.append_assoc])
      clear hSS hSL hgt1 hct1 hct2 hTT12
      go_loopw [71] (fun vi wr => ∃ k : Nat, vi = .int .i64 k ∧ Hid (k ≤ n ∧ BRow wr w.heap.size (.slice (some ⟨gt, 0, none⟩) TT ct) (txK SS (owK m k)) ∧ Below w.heap.size w wr)) (fun vi _ => n - (intOf vi).toNat)
      case atStart => exact ⟨0, rfl, hide ⟨by omega, by rw [owK]; exact Hb5.out, HB5.out⟩⟩
      case round =>
        clear Hb5 HB5
        obtain ⟨k, rfl, HV⟩ := hrel
        obtain ⟨hk, hT, hbw⟩ := HV.out
        have hk0 : (0 : Int) ≤ (k : Int) := by omega
        clear HV
        by_cases hlt : k < n
        case neg =>
          obtain rfl : n = k := by omega
          have hlt' : ¬ (n : Int) < (n : Int) := by omega
          have hcv := BRow.text hT
          rw [HFN.out] at hcv
          have HB9 := hide hbw
          clear hT hbw hk
          go_wp2_with fail
          go_ret
          exact ⟨rfl, HB9.out⟩
        have hlt' : (k : Int) < (n : Int) := by omega
        obtain ⟨x1, x2, b0, b1, b2, b3, P, L, D, hx, rfl, hly, hP, hL2, hD, hDk, hPL⟩ := HROW.out k hlt
        obtain ⟨g0, g1, g2, g3, g4, g5, g6⟩ := (HRL.out.kept hbw hbb).2 k _ (lyRs_at m n k hlt)
        rw [hly] at g0 g1 g2 g3 g4 g5 g6
        simp only at g0 g1 g2 g3 g4 g5 g6
        have hbr : b < wr.heap.size := Nat.lt_of_lt_of_le hbb hbw.size
        have hne1 : b ≠ wr.heap.size := by omega
        have hP' : (P : Int) ≤ 1048576 := by omega
        have hL' : (L : Int) ≤ 1048576 := by omega
        have hgd : (m.getD k tz).1 = tgS b0 b1 b2 b3 := by rw [List.getD_eq_getElem?_getD, hx]; rfl
        have how : owK m (k + 1) = if (isHd b0 b1 b2 b3 && decide (12 ≤ L)) = true then (P : Int) + 8 else owK m k := by
          rw [owK, hgd, eqS_hd, hd_eq, hDk, hP, ← hD, smS_size, hL2]
        have HBW := hide hbw
        have HT := hide hT
        have hal := (Below.refl wr.heap.size wr).alloc (Nat.le_refl _) (.cells (rC b0 b1 b2 b3 0 (P : Int) (L : Int)) 178)
        cases hBB : (isHd b0 b1 b2 b3 && decide (12 ≤ L)) with
        | false =>
          rw [hBB, if_neg (by simp)] at how
          have CH := hide (fun w hg => holdsS (n := L) hBB w hg (by omega))
          have HOW := hide how
          have HAL := hide hal
          clear hT hbw hx hly hP hL2 hD hDk hPL hk hlt hgd hBB how hal
          go_wp2_with fail
          refine (CH.out _ ?_).mono ?_
          · exact HG.out.below (HBW.out.trans (HAL.out.mono HBW.out.size))
          rintro e w9 ⟨rfl, h9⟩
          have hw9 := below_t5 HAL.out h9
          have Hb9 := hide (HT.out.later hw9)
          have HB9 := hide (HBW.out.trans (hw9.mono HBW.out.size))
          clear h9 hw9 g0 g1 g2 g3 g4 g5 g6
          go_wp2_with fail
          go_roundw
          case rel => exact ⟨k + 1, by go_num, hide ⟨by omega, by rw [HOW.out]; exact Hb9.out, HB9.out⟩⟩
          case measure => simp [intOf]; omega
        | true =>
          rw [hBB, if_pos rfl] at how
          have hBB' := hBB
          rw [Bool.and_eq_true, decide_eq_true_eq] at hBB'
          have hold : owK m k = -1 := ow_none m HGO.out k (by rw [HN.out]; exact hlt) (by rw [hgd, eqS_hd, hd_eq]; exact hBB'.1)
          have hT0 : BRow wr w.heap.size (.slice (some ⟨gt, 0, none⟩) TT ct) SS := by
            rw [hold] at hT
            exact hT
          have hPT : P + L ≤ TT := by
            have h1 := pl_next m k
            have h2 := pl_mono m (k + 1) (n - (k + 1))
            rw [show k + 1 + (n - (k + 1)) = n by omega, HTT.out] at h2
            rw [hDk, hP, ← hD, smS_size, hL2] at h1
            omega
          obtain ⟨Q, hQ⟩ : ∃ Q, P + 8 = Q := ⟨_, rfl⟩
          have hQ' : (P : Int) + 8 = (Q : Int) := by omega
          have hQT : (Q : Int) ≤ (TT : Int) := by omega
          have hQ4 : Q + 4 ≤ TT := by omega
          obtain ⟨SU, hSU⟩ : ∃ SU : Nat, sumV SS = SU := ⟨_, rfl⟩
          have hSUb : (SU : Int) ≤ 4294967295 := by have := sumV_lt SS; omega
          obtain ⟨LK, hLK⟩ : ∃ K : Int, 2981146554 - (SU : Int) = K := ⟨_, rfl⟩
          have hLK1 : -4294967296 ≤ LK := by omega
          have hLK2 : LK ≤ 4294967296 := by omega
          have CH := hide (fun w hg => holdsS (n := L) hBB w hg (by omega))
          have CSu := hide (show ∀ (w : World), Calls Tryz.prog 146 #[.string ⟨SS.toArray⟩] w fun e w' => e = .returned (.int .i64 (SU : Int)) ∧ w' = w from fun w => by
            have hh := sum_any ⟨SS.toArray⟩ w (by rw [Lib.size_eq]; show SS.length ≤ _; rw [HSL.out]; omega)
            rw [show sumV (⟨SS.toArray⟩ : ByteArray).data.toList = SU from hSU] at hh
            exact hh)
          have HTX := hide (show txK SS (owK m (k + 1)) = SS.take Q ++ (nbT LK 4 ++ SS.drop (Q + 4)) by
            rw [how]
            unfold txK
            rw [if_pos (by omega), hQ', Int.toNat_natCast, nb_f4, nb_mod, hSU, hLK])
          have HSP := hide (show SS = SS.take Q ++ ((SS.drop Q).take 4 ++ SS.drop (Q + 4)) by
            rw [← List.drop_drop, List.take_append_drop, List.take_append_drop])
          have HT0 := hide hT0
          have HQ4 := hide hQ4
          have HAL := hide hal
          have hbw9 : wr.heap.size < (wr.alloc (.cells (rC b0 b1 b2 b3 0 (P : Int) (L : Int)) 178)).heap.size := by simp
          have hkb := Blk.new wr (rC b0 b1 b2 b3 0 (P : Int) (L : Int)) 178
          have HKB := hide hkb
          clear hT hT0 hbw hx hly hP hL2 hD hDk hPL hk hlt hgd hBB how hal hBB' hold hSU hPT hQ hQ4 hbw9 hkb
          go_wp2_with fail
          refine (CH.out _ ?_).mono ?_
          · exact HG.out.below (HBW.out.trans (HAL.out.mono HBW.out.size))
          rintro e w9 ⟨rfl, h9⟩
          have hw9 := below_t5 HAL.out h9
          have hT9 := HT0.out.later hw9
          have hcv := BRow.text hT9
          have Hb9 := hide hT9
          have HB9 := hide (HBW.out.trans (hw9.mono HBW.out.size))
          have K9 := hide (HKB.out.below h9)
          clear h9 hw9 hT9 g0 g1 g2 g3 g4 g5 g6 HAL HKB
          go_wp2_with (go_at_call 146; refine (CSu.out _).mono ?_; rintro e wz ⟨rfl, hwz⟩; replace hwz := hwz.symm; subst hwz)
          clear hcv
          rename_i kk0
          have HA := hide kk0
          clear kk0
          have HS0 := hide (show ∀ y : World, Below w9.heap.size w9 y → y.cell? ⟨wr.heap.size, 5, none⟩ = some (.int .i64 (P : Int)) from fun y hy => (K9.out.below hy).cell 5)
          have hgb : gt < wr.heap.size := by
            obtain ⟨_, h⟩ := World.ownsRow.lt HT0.out gt rfl
            exact h
          have CA := hide (fun w' => appendNumber_any (.slice none 0 0) [] LK 4 w9.heap.size w' (by omega) (by omega) (by omega))
          refine wp_region_held_drew (S := (fun y => y.cell? ⟨wr.heap.size, 5, none⟩ = some (.int .i64 (P : Int)))) (by kernel_rfl) (HS0.out _ ((Below.refl _ _).drew)) (fun hHeld => ?_)
          refine takeW (i := 0) (d := 84) (v := .slice (some ⟨gt, 0, none⟩) TT ct) rfl rfl (by kernel_rfl) (by kernel_rfl) (by kernel_rfl) (fun _ _ _ h => h) (by rfl) ?_ (by assumption) ?_
          · intro x hSx
            have q0 := hSx
            go_simp
          simp only [Act.put, List.setIfInBounds_toArray, List.set_cons_zero, List.set_cons_succ]
          refine takeW (i := 1) (d := 85) (v := .pointer (some ⟨wr.heap.size, 5, none⟩)) rfl rfl (by kernel_rfl) (by kernel_rfl) (by kernel_rfl) (fun _ _ _ h => h) (by rfl) ?_ (by assumption) ?_
          · intro x hSx
            have q0 := hSx
            go_simp
          simp only [Act.put, List.setIfInBounds_toArray, List.set_cons_zero, List.set_cons_succ]
          refine takeW (i := 2) (d := 86) (v := .int .i64 (P : Int)) rfl rfl (by kernel_rfl) (by kernel_rfl) (by kernel_rfl) (fun _ _ _ h => h) (by rfl) ?_ (by assumption) ?_
          · intro x hSx
            have q0 := hSx
            go_simp
          simp only [Act.put, List.setIfInBounds_toArray, List.set_cons_zero, List.set_cons_succ]
          refine takeW (i := 3) (d := 87) (v := .int .i64 (Q : Int)) rfl rfl (by kernel_rfl) (by kernel_rfl) (by kernel_rfl) (fun _ _ _ h => h) (by rfl) ?_ (by assumption) ?_
          · intro x hSx
            have q0 := hSx
            go_simp
            exact wraps_i64 _ (by omega) (by omega)
          simp only [Act.put, List.setIfInBounds_toArray, List.set_cons_zero, List.set_cons_succ]
          refine takeW (i := 4) (d := 88) (v := .slice (some ⟨gt, Q, none⟩) (TT - Q) (ct - Q)) rfl rfl (by kernel_rfl) (by kernel_rfl) (by kernel_rfl) (fun _ _ _ h => h) (by rfl) ?_ (by assumption) ?_
          · intro x hSx
            have q0 := hSx
            go_simp
            have := HQ4.out
            omega
          simp only [Act.put, List.setIfInBounds_toArray, List.set_cons_zero, List.set_cons_succ]
          refine takeW (i := 5) (d := 89) (v := .int .i64 LK) rfl rfl (by kernel_rfl) (by kernel_rfl) (by kernel_rfl) (fun _ _ _ h => h) (by rfl) ?_ (by assumption) ?_
          · intro x hSx
            have q0 := hSx
            go_simp
          simp only [Act.put, List.setIfInBounds_toArray, List.set_cons_zero, List.set_cons_succ]
          refine wpAnyH_ready (rs := [6]) (by kernel_rfl) (by simp) ?_
          refine AllReadyH.cons rfl (fun K hK => ?_) AllReadyH.nil
          rw [if_pos (by rfl)]
          go_simp
          go_at_call 150
          refine (CA.out _ (BRow.nil _ _) ?_ (by simp)).mono ?_
          · exact Nat.le_refl _
          rintro e y ⟨vn, rfl, hbn, hkn⟩
          have hyB : Below w9.heap.size w9 y := below_d (b := w9.drew) (Below.refl _ _) (show Below w9.drew.heap.size w9.drew y from hkn.below) rfl rfl rfl rfl
          rw [List.nil_append] at hbn
          refine hK.out _ _ (HS0.out _ hyB) (fun hHeld => ?_)
          clear hK K
          refine wpAnyH_ready (rs := [7]) (by kernel_rfl) (by simp) ?_
          refine AllReadyH.cons rfl (fun K hK => ?_) AllReadyH.nil
          have hTy := Hb9.out.later hyB
          have hSL := HSL.out
          have hQ4 : Q + 4 ≤ TT := HQ4.out
          rw [HSP.out] at hTy
          obtain ⟨w10, hcp, hb10, hs10, hk10, ho1, ho2, ho3⟩ := copy_row (cap2 := ct - Q) (p := Q) (q := TT - Q) (zs := nbT LK 4) hTy (by rw [← HSP.out]; exact hSL) (by rw [List.length_take]; omega) (by rw [nbT_len, List.length_take, List.length_drop]; omega) rfl (by rw [nbT_len]; omega) hbn
          have HCP := hide hcp
          have hB10 : Below w.heap.size w w10 := (HB9.out.trans (hyB.mono HB9.out.size)).trans ⟨ho1, ho2, ho3, Nat.le_of_eq hs10.symm, fun k hk => hk10 k (by have := HGT.out.1; omega)⟩
          have HB10 := hide hB10
          have Hb10 := hide hb10
          have HC5 := hide (show w10.cell? ⟨wr.heap.size, 5, none⟩ = some (.int .i64 (P : Int)) by
            have e : w10.heap[wr.heap.size]? = y.heap[wr.heap.size]? := hk10 _ (by omega)
            have h := HS0.out _ hyB
            unfold World.cell? at h ⊢
            rw [e]; exact h)
          clear hTy hSL hQ4 hcp hb10 hs10 hk10 ho1 ho2 ho3 hB10 hbn hkn hyB
          rw [if_pos (by rfl)]
          refine Lib.wp_copy_run _ _ _ _ _ rfl _ _ rfl rfl HCP.out ?_
          refine hK.out _ _ HC5.out (fun hHeld => ?_)
          clear hK K
          refine wpAnyH_done (by kernel_rfl) ?_ _
          refine HA.out _ _ ?_
          clear HA
          go_wp2_with fail
          go_roundw
          case rel => exact ⟨k + 1, by go_num, hide ⟨by omega, by rw [HTX.out]; exact Hb10.out, HB10.out⟩⟩
          case measure => simp [intOf]; omega
end Go.Proofs.YtpdfpbbamnhkfaaGreatDoor.S8
