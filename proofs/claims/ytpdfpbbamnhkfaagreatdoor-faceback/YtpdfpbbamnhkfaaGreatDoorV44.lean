/-
  Joined: S8Rb, S8Fi, S8So, S8Se, S8St, S8Wh, S8Tp, S8Tb, S8Su.
-/
import Derived.Deep.CutRange
import Derived.WalkLawsBesides
import Derived.Test.YtpdfpbbamnhkfaaGreatDoorV42
import Derived.Test.YtpdfpbbamnhkfaaGreatDoorV43
namespace Go.Proofs.YtpdfpbbamnhkfaaGreatDoor.S8
open Go.RowKit Go.Deep
set_option linter.unusedVariables false
set_option linter.unusedSimpArgs false
theorem TbRow.at {w : World} {B : Nat} {v : Value} {l : List (ByteArray × ByteArray)} (h : TbRow w B v l) (h0 : 0 < l.length) : ∃ g cap, v = .slice (some ⟨g, 0, none⟩) l.length cap ∧ g < w.heap.size ∧ ∀ i x, l[i]? = some x → w.cell? ⟨g, i * 2, none⟩ = some (.string x.1) ∧ w.cell? ⟨g, i * 2 + 1, none⟩ = some (.string x.2) := by
  have h' := h
  obtain ⟨_, ⟨h1, h2⟩ | ⟨g, cap, cur, hv, _⟩⟩ := h'
  · omega
  · refine ⟨g, cap, hv, ?_, ?_⟩
    · rw [hv] at h; exact (World.ownsRow.lt h g rfl).2
    · intro i x hi
      rw [hv] at h
      have hlt := (List.getElem?_eq_some_iff.1 hi).1
      have key : ∀ (l : List (ByteArray × ByteArray)) (i : Nat) (x : ByteArray × ByteArray), l[i]? = some x → (tcs l)[i * 2]? = some (.string x.1) ∧ (tcs l)[i * 2 + 1]? = some (.string x.2) := by
        intro l
        induction l with
        | nil => intro i x h; simp at h
        | cons y l ih =>
          intro i x h
          cases i with
          | zero => simp at h; subst h; exact ⟨rfl, rfl⟩
          | succ i =>
            have := ih i x (by simpa using h)
            rw [show (i + 1) * 2 = i * 2 + 2 by omega]
            exact this
      obtain ⟨k1, k2⟩ := key l i x hi
      exact ⟨by rw [TbRow.cell h (i * 2) (by omega)]; exact k1, by rw [TbRow.cell h (i * 2 + 1) (by omega)]; exact k2⟩
end Go.Proofs.YtpdfpbbamnhkfaaGreatDoor.S8
namespace Go.Proofs.YtpdfpbbamnhkfaaGreatDoor.S8
open Go.RowKit Go.Deep
set_option linter.unusedVariables false
def eqS (a b : ByteArray) : Bool := a.toList == b.toList
theorem eqS_iff (a b : ByteArray) : eqS a b = true ↔ a = b := by
  unfold eqS
  rw [beq_iff_eq, Lib.toList_data, Lib.toList_data]
  constructor
  · intro h
    cases a with | mk a => cases b with | mk b => simp at h; rw [h]
  · intro h; rw [h]
theorem eqS_no {a b : ByteArray} (h : a ≠ b) : eqS a b = false := by
  cases e : eqS a b with
  | false => rfl
  | true => exact absurd ((eqS_iff a b).1 e) h
abbrev Tab := ByteArray × ByteArray
def TLst (w : World) (a : Option Addr) (l : List Tab) : Prop :=
  l = [] ∨ ∃ b off, a = some ⟨b, off, none⟩ ∧ b < w.heap.size ∧ ∀ i x, l[i]? = some x → w.cell? ⟨b, off + i * 2, none⟩ = some (.string x.1) ∧ w.cell? ⟨b, off + i * 2 + 1, none⟩ = some (.string x.2)
def finV (l : List Tab) (t : ByteArray) : Option ByteArray := (l.find? fun x => eqS x.1 t).map (·.2)
theorem TbRow.lst {w : World} {B : Nat} {v : Value} {l : List Tab} (h : TbRow w B v l) : ∃ a cap, v = .slice a l.length cap ∧ TLst w a l := by
  rcases Nat.eq_zero_or_pos l.length with h0 | h0
  · obtain ⟨a, cap, hv⟩ := h.shape
    exact ⟨a, cap, hv, Or.inl (List.eq_nil_of_length_eq_zero h0)⟩
  · obtain ⟨g, cap, hv, hg, hc⟩ := h.at h0
    exact ⟨_, cap, hv, Or.inr ⟨g, 0, rfl, hg, fun i x hi => by rw [Nat.zero_add]; exact hc i x hi⟩⟩
end Go.Proofs.YtpdfpbbamnhkfaaGreatDoor.S8
namespace Go.Proofs.YtpdfpbbamnhkfaaGreatDoor.S8
open Go.RowKit Go.Deep
set_option linter.unusedVariables false
def gtT (y x : Tab) : Bool := Op.bytesLess x.1.toList y.1.toList
def insR (x : Tab) : List Tab → List Tab
  | [] => [x]
  | y :: r => if gtT y x = true then y :: insR x r else x :: y :: r
def insV (x : Tab) (l : List Tab) : List Tab := (insR x l.reverse).reverse
def sorV (l : List Tab) : List Tab := l.foldl (fun a x => insV x a) []
theorem insR_len (x : Tab) : ∀ r, (insR x r).length = r.length + 1
  | [] => rfl
  | y :: r => by
    rw [insR]
    split
    · rw [List.length_cons, insR_len x r, List.length_cons]
    · rfl
theorem insV_len (x : Tab) (l : List Tab) : (insV x l).length = l.length + 1 := by unfold insV; rw [List.length_reverse, insR_len, List.length_reverse]
theorem sorV_len : ∀ (l a : List Tab), (l.foldl (fun a x => insV x a) a).length = a.length + l.length
  | [], a => rfl
  | x :: l, a => by rw [List.foldl_cons, sorV_len l, insV_len, List.length_cons]; omega
theorem TbRow.at2 {w : World} {B g cap n : Nat} {l : List Tab} (h : TbRow w B (.slice (some ⟨g, 0, none⟩) n cap) l) (hn : l.length = n) (i : Nat) (x : Tab) (hi : l[i]? = some x) : w.cell? ⟨g, i * 2, none⟩ = some (.string x.1) ∧ w.cell? ⟨g, i * 2 + 1, none⟩ = some (.string x.2) := by
  obtain ⟨g', cap', hv, _, hc⟩ := h.at (by have := (List.getElem?_eq_some_iff.1 hi).1; omega)
  injection hv with h1 h2 h3
  injection h1 with h1
  injection h1 with h1
  subst h1
  exact hc i x hi
theorem TbRow.base {w : World} {B g cap n : Nat} {l : List Tab} (h : TbRow w B (.slice (some ⟨g, 0, none⟩) n cap) l) : B ≤ g ∧ g < w.heap.size := World.ownsRow.lt h g rfl
end Go.Proofs.YtpdfpbbamnhkfaaGreatDoor.S8
namespace Go.Proofs.YtpdfpbbamnhkfaaGreatDoor.S8
open Go.RowKit Go.Deep
set_option linter.unusedVariables false
def tz : Tab := (⟨#[]⟩, ⟨#[]⟩)
def okT (m : List Tab) (i : Nat) : Bool := tagB (m.getD i tz).1 && (decide (i = 0) || !eqS (m.getD i tz).1 (m.getD (i - 1) tz).1)
def szT (m : List Tab) : Nat → Nat
  | 0 => 12 + 16 * m.length
  | k + 1 => if 1048576 < (m.getD k tz).2.size ∨ 1048576 < szT m k then 1048577 else szT m k + ((m.getD k tz).2.size + 3) / 4 * 4
def okA (m : List Tab) : Prop := ∀ i, i < m.length → okT m i = true
instance (m : List Tab) : Decidable (okA m) := by unfold okA; infer_instance
def bErr (l : List Tab) : Int := if l.length < 1 ∨ 32 < l.length then 80 else if okA (sorV l) then (if 1048576 < szT (sorV l) l.length then 2 else 0) else 80
theorem sor_len (l : List Tab) : (sorV l).length = l.length := by unfold sorV; rw [sorV_len]; simp
end Go.Proofs.YtpdfpbbamnhkfaaGreatDoor.S8
namespace Go.Proofs.YtpdfpbbamnhkfaaGreatDoor.S8
open Go.RowKit Go.Deep
set_option linter.unusedVariables false
def ownS (t s : ByteArray) : ByteArray := match t.data.toList with
  | [b0, b1, b2, b3] => smS b0 b1 b2 b3 s
  | _ => s
theorem ownS_size (t s : ByteArray) : (ownS t s).size = s.size := by
  unfold ownS
  split
  · exact smS_size _ _ _ _ _
  · rfl
theorem tag_size {t : ByteArray} (h : tagB t = true) : t.size = 4 := by
  rcases Nat.decEq t.size 4 with h' | h'
  · rw [tagB_no h'] at h; simp at h
  · exact h'
def dOf (m : List Tab) (k : Nat) : ByteArray := ownS (m.getD k tz).1 (m.getD k tz).2
def bodT (m : List Tab) : Nat → List UInt8
  | 0 => []
  | k + 1 => bodT m k ++ padT (dOf m k).data.toList
def plT (m : List Tab) (k : Nat) : Nat := 12 + 16 * m.length + (bodT m k).length
def rowT (m : List Tab) : Nat → List UInt8
  | 0 => []
  | k + 1 => rowT m k ++ ((m.getD k tz).1.data.toList ++ f4 ((sumV (dOf m k).data.toList : Nat) : Int) ++ f4 (plT m k : Int) ++ f4 ((dOf m k).size : Int))
def owK (m : List Tab) : Nat → Int
  | 0 => -1
  | k + 1 => if (eqS (m.getD k tz).1 ⟨#[104, 101, 97, 100]⟩ && decide (12 ≤ (dOf m k).size)) = true then (plT m k : Int) + 8 else owK m k
theorem f4_len (x : Int) : (f4 x).length = 4 := by unfold f4; rw [List.length_append, nbT_len, nbT_len]
theorem padT_sz (l : List UInt8) : (padT l).length = (l.length + 3) / 4 * 4 := by
  unfold padT
  rw [List.length_append, List.length_replicate]
  omega
theorem szT_mono (m : List Tab) (k : Nat) (h : szT m (k + 1) ≤ 1048576) : szT m k ≤ 1048576 ∧ (m.getD k tz).2.size ≤ 1048576 ∧ szT m (k + 1) = szT m k + ((m.getD k tz).2.size + 3) / 4 * 4 := by
  rw [szT] at h ⊢
  split at h
  · omega
  · rename_i h'
    rw [if_neg h']
    omega
theorem pl_sz (m : List Tab) : ∀ k, szT m k ≤ 1048576 → plT m k = szT m k
  | 0, _ => by unfold plT; rw [szT, bodT]; simp
  | k + 1, h => by
    obtain ⟨h1, h2, h3⟩ := szT_mono m k h
    have ih := pl_sz m k h1
    unfold plT at *
    rw [bodT, List.length_append, padT_sz, h3, ← ih]
    have e : (dOf m k).data.toList.length = (m.getD k tz).2.size := by
      rw [← Lib.size_eq]; unfold dOf; exact ownS_size _ _
    rw [e]; omega
theorem pl_next (m : List Tab) (k : Nat) : plT m k + (dOf m k).size ≤ plT m (k + 1) := by
  unfold plT
  rw [bodT, List.length_append, padT_sz, ← Lib.size_eq]; omega
theorem pl_mono (m : List Tab) (k : Nat) : ∀ d, plT m k ≤ plT m (k + d)
  | 0 => Nat.le_refl _
  | d + 1 => Nat.le_trans (pl_mono m k d) (Nat.le_trans (Nat.le_add_right _ _) (pl_next m (k + d)))
theorem row_len (m : List Tab) (hok : okA m) : ∀ k, k ≤ m.length → (rowT m k).length = 16 * k
  | 0, _ => rfl
  | k + 1, hk => by
    have ih := row_len m hok k (by omega)
    have h1 := hok k (by omega)
    unfold okT at h1
    rw [Bool.and_eq_true] at h1
    have h2 := tag_size h1.1
    rw [Lib.size_eq] at h2
    rw [rowT, List.length_append, List.length_append, List.length_append, List.length_append, ih, f4_len, f4_len, f4_len, h2]; omega
def txtV (m : List Tab) : List UInt8 :=
  let s := openT m.length ++ (rowT m m.length ++ bodT m m.length)
  if 0 ≤ owK m m.length then s.take (owK m m.length).toNat ++ (f4 ((2981146554 - ((sumV s : Nat) : Int)) % 4294967296) ++ s.drop ((owK m m.length).toNat + 4)) else s
end Go.Proofs.YtpdfpbbamnhkfaaGreatDoor.S8
namespace Go.Proofs.YtpdfpbbamnhkfaaGreatDoor.S8
open Go.RowKit Go.Deep
set_option linter.unusedVariables false
set_option linter.unusedSimpArgs false
theorem tabV_bd (s : ByteArray) (x : Tab) (h : x ∈ tabV s) : x.2.size ≤ s.size := by
  unfold tabV at h
  split at h
  · obtain ⟨r, _, rfl⟩ := List.mem_map.1 h
    unfold tbOf
    simp only
    rw [ByteArray.size_extract]
    omega
  · simp at h
theorem tabV_len (s : ByteArray) : (tabV s).length ≤ 32 := by
  unfold tabV
  split
  · rename_i h
    rw [List.length_map, rowsV_len]
    unfold errV at h
    split at h
    · simp at h
    · cases e : hdB s.data.toList with
      | false => rw [e] at h; simp at h
      | true =>
        unfold hdB at e
        rw [Bool.and_eq_true, Bool.and_eq_true, Bool.and_eq_true, decide_eq_true_eq, decide_eq_true_eq, decide_eq_true_eq] at e
        exact e.2.2.1
  · simp
theorem less_trans : ∀ (a b c : List UInt8), Op.bytesLess a b = true → Op.bytesLess b c = true → Op.bytesLess a c = true
  | _, _, [], _, h => by simp [Op.bytesLess] at h
  | [], _, c :: z, _, _ => by simp [Op.bytesLess]
  | a :: x, [], c :: z, h, _ => by simp [Op.bytesLess] at h
  | a :: x, b :: y, c :: z, h1, h2 => by
    have ih := less_trans x y z
    simp only [Op.bytesLess, Bool.or_eq_true, Bool.and_eq_true, decide_eq_true_eq, beq_iff_eq] at *
    rcases h1 with h1 | ⟨rfl, h1⟩
    · rcases h2 with h2 | ⟨rfl, h2⟩
      · left; rw [UInt8.lt_iff_toNat_lt] at *; omega
      · left; exact h1
    · rcases h2 with h2 | ⟨rfl, h2⟩
      · left; exact h2
      · right; exact ⟨rfl, ih h1 h2⟩
theorem less_irrefl : ∀ (a : List UInt8), Op.bytesLess a a = false
  | [] => rfl
  | a :: x => by
    have : ¬ a < a := by rw [UInt8.lt_iff_toNat_lt]; omega
    simp [Op.bytesLess, this, less_irrefl x]
end Go.Proofs.YtpdfpbbamnhkfaaGreatDoor.S8
namespace Go.Proofs.YtpdfpbbamnhkfaaGreatDoor.S8
open Go.RowKit Go.Deep
set_option linter.unusedVariables false
def Srt (l : List Tab) : Prop := l.Pairwise fun x y => gtT x y = false
def StT (l : List Tab) : Prop := l.Pairwise fun x y => Op.bytesLess x.1.toList y.1.toList = true
theorem less_no {a b : List UInt8} (h : Op.bytesLess a b = true) : Op.bytesLess b a = false := by
  cases e : Op.bytesLess b a with
  | false => rfl
  | true =>
    have := less_trans _ _ _ h e
    rw [less_irrefl] at this; cases this
theorem less_or {a b : List UInt8} (h : Op.bytesLess b a = false) : Op.bytesLess a b = true ∨ a = b := by
  have e := less_total a b
  rw [h, Bool.not_false, Bool.or_eq_true, beq_iff_eq] at e
  exact e
theorem less_nt {a b c : List UInt8} (h1 : Op.bytesLess a b = false) (h2 : Op.bytesLess b c = false) : Op.bytesLess a c = false := by
  cases e : Op.bytesLess a c with
  | false => rfl
  | true =>
    rcases less_or h1 with h1 | rfl
    · rcases less_or h2 with h2 | rfl
      · have := less_trans _ _ _ e (less_trans _ _ _ h2 h1)
        rw [less_irrefl] at this; cases this
      · have := less_trans _ _ _ e h1
        rw [less_irrefl] at this; cases this
    · rw [e] at h2; cases h2
theorem insR_mem (x : Tab) : ∀ r y, y ∈ insR x r → y = x ∨ y ∈ r
  | [], y, h => by simp [insR] at h; exact Or.inl h
  | q :: r, y, h => by
    rw [insR] at h
    split at h
    · rcases List.mem_cons.1 h with h | h
      · exact Or.inr (by rw [h]; exact List.mem_cons_self)
      · rcases insR_mem x r y h with h | h
        · exact Or.inl h
        · exact Or.inr (List.mem_cons_of_mem _ h)
    · rcases List.mem_cons.1 h with h | h
      · exact Or.inl h
      · exact Or.inr h
theorem insR_srt (x : Tab) : ∀ r : List Tab, (r.Pairwise fun a b => gtT b a = false) → (insR x r).Pairwise fun a b => gtT b a = false
  | [], _ => by simp [insR]
  | y :: r, h => by
    have h' := List.pairwise_cons.1 h
    rw [insR]
    split
    · rename_i hg
      refine List.pairwise_cons.2 ⟨fun b hb => ?_, insR_srt x r h'.2⟩
      rcases insR_mem x r b hb with rfl | hb
      · exact less_no hg
      · exact h'.1 b hb
    · rename_i hg
      have hg : gtT y x = false := by simpa using hg
      refine List.pairwise_cons.2 ⟨fun b hb => ?_, h⟩
      rcases List.mem_cons.1 hb with rfl | hb
      · exact hg
      · exact less_nt hg (h'.1 b hb)
theorem insR_perm (x : Tab) : ∀ r : List Tab, (insR x r).Perm (x :: r)
  | [] => List.Perm.refl _
  | y :: r => by
    rw [insR]
    split
    · exact (List.Perm.cons y (insR_perm x r)).trans (List.Perm.swap x y r)
    · exact List.Perm.refl _
theorem insV_srt (x : Tab) (l : List Tab) (h : Srt l) : Srt (insV x l) := by
  unfold Srt insV
  rw [List.pairwise_reverse]
  exact insR_srt x _ (List.pairwise_reverse.2 h)
theorem insV_perm (x : Tab) (l : List Tab) : (insV x l).Perm (x :: l) := by
  unfold insV
  exact (List.reverse_perm _).trans ((insR_perm x _).trans (List.Perm.cons x (List.reverse_perm _)))
theorem sor_both : ∀ (l a : List Tab), Srt a → Srt (l.foldl (fun a x => insV x a) a) ∧ (l.foldl (fun a x => insV x a) a).Perm (a ++ l)
  | [], a, h => ⟨h, by rw [List.append_nil]; exact List.Perm.refl _⟩
  | x :: l, a, h => by
    obtain ⟨h1, h2⟩ := sor_both l (insV x a) (insV_srt x a h)
    refine ⟨h1, h2.trans ?_⟩
    exact ((insV_perm x a).append_right l).trans List.perm_middle.symm
theorem sor_srt (l : List Tab) : Srt (sorV l) := (sor_both l [] List.Pairwise.nil).1
theorem sor_perm (l : List Tab) : (sorV l).Perm l := (sor_both l [] List.Pairwise.nil).2
theorem srt_uniq : ∀ (a b : List Tab), a.Perm b → StT a → Srt b → a = b
  | [], b, hp, _, _ => (List.Perm.nil_eq hp)
  | x :: a, [], hp, _, _ => by have := hp.length_eq; simp at this
  | x :: a, y :: b, hp, ha, hb => by
    have ha' := List.pairwise_cons.1 ha
    have hb' := List.pairwise_cons.1 hb
    have e : x = y := by
      have h1 : x ∈ y :: b := hp.subset List.mem_cons_self
      have h2 : y ∈ x :: a := hp.symm.subset List.mem_cons_self
      rcases List.mem_cons.1 h1 with h1 | h1
      · exact h1
      · rcases List.mem_cons.1 h2 with h2 | h2
        · exact h2.symm
        · have q1 := hb'.1 x h1
          have q2 := ha'.1 y h2
          unfold gtT at q1
          rw [q2] at q1; cases q1
    subst e
    rw [srt_uniq a b (List.Perm.cons_inv hp) ha'.2 hb'.2]
def riseM : List UInt8 → List Tab → Bool
  | _, [] => true
  | a, x :: m => tagB x.1 && (Op.bytesLess a x.1.toList && riseM x.1.toList m)
def goM (m : List Tab) : Prop := (∀ x ∈ m, x.1.size = 4) ∧ riseM [0, 0, 0, 0] m = true
theorem tag_pos {t : ByteArray} (h : tagB t = true) : Op.bytesLess [0, 0, 0, 0] t.toList = true := by
  obtain ⟨b0, b1, b2, b3, rfl⟩ := four_of (tag_size h)
  unfold tagB at h
  simp only [gdB, Bool.and_eq_true, decide_eq_true_eq] at h
  have : (0 : UInt8) < b0 := by rw [UInt8.lt_iff_toNat_lt]; show 0 < _; omega
  rw [Lib.toList_data]
  simp [Op.bytesLess, this]
theorem rise_st : ∀ (m : List Tab) (a : List UInt8), riseM a m = true → (∀ x ∈ m, tagB x.1 = true ∧ Op.bytesLess a x.1.toList = true) ∧ StT m
  | [], a, _ => ⟨fun x hx => by simp at hx, List.Pairwise.nil⟩
  | y :: m, a, h => by
    rw [riseM, Bool.and_eq_true, Bool.and_eq_true] at h
    obtain ⟨h1, h2⟩ := rise_st m _ h.2.2
    refine ⟨fun x hx => ?_, List.pairwise_cons.2 ⟨fun x hx => (h1 x hx).2, h2⟩⟩
    rcases List.mem_cons.1 hx with rfl | hx
    · exact ⟨h.1, h.2.1⟩
    · exact ⟨(h1 x hx).1, less_trans _ _ _ h.2.1 (h1 x hx).2⟩
theorem st_rise : ∀ (m : List Tab) (a : List UInt8), (∀ x ∈ m, tagB x.1 = true ∧ Op.bytesLess a x.1.toList = true) → StT m → riseM a m = true
  | [], a, _, _ => rfl
  | y :: m, a, h, hs => by
    have hs' := List.pairwise_cons.1 hs
    obtain ⟨h1, h2⟩ := h y List.mem_cons_self
    rw [riseM, h1, h2, st_rise m _ (fun x hx => ⟨(h x (List.mem_cons_of_mem _ hx)).1, hs'.1 x hx⟩) hs'.2]; rfl
theorem go_iff (m : List Tab) : goM m ↔ (∀ x ∈ m, tagB x.1 = true) ∧ StT m := by
  constructor
  · rintro ⟨_, h⟩
    obtain ⟨h1, h2⟩ := rise_st m _ h
    exact ⟨fun x hx => (h1 x hx).1, h2⟩
  · rintro ⟨h1, h2⟩
    exact ⟨fun x hx => tag_size (h1 x hx), st_rise m _ (fun x hx => ⟨h1 x hx, tag_pos (h1 x hx)⟩) h2⟩
theorem getD_some (m : List Tab) (i : Nat) (h : i < m.length) : m.getD i tz = m[i] := by
  rw [List.getD_eq_getElem?_getD, List.getElem?_eq_getElem h]; rfl
theorem srt_st : ∀ (m : List Tab), Srt m → (∀ i, (h : i + 1 < m.length) → m[i].1 ≠ m[i + 1].1) → StT m
  | [], _, _ => List.Pairwise.nil
  | [x], _, _ => List.pairwise_singleton _ _
  | x :: y :: m, hs, hn => by
    have hs' := List.pairwise_cons.1 hs
    have ih := srt_st (y :: m) hs'.2 (fun i h => by
      have := hn (i + 1) (by simp at h ⊢; omega)
      simpa using this)
    have h0 : Op.bytesLess x.1.toList y.1.toList = true := by
      have h1 := hs'.1 y List.mem_cons_self
      have h2 : x.1 ≠ y.1 := hn 0 (by simp)
      rcases less_or h1 with h | h
      · exact h
      · exfalso; apply h2
        rw [Lib.toList_data, Lib.toList_data] at h
        obtain ⟨⟨x1⟩, _⟩ := x
        obtain ⟨⟨y1⟩, _⟩ := y
        simp at h; rw [h]
    refine List.pairwise_cons.2 ⟨fun z hz => ?_, ih⟩
    rcases List.mem_cons.1 hz with rfl | hz
    · exact h0
    · exact less_trans _ _ _ h0 ((List.pairwise_cons.1 ih).1 z hz)
theorem ok_go (m : List Tab) (hs : Srt m) (h : okA m) : goM m := by
  rw [go_iff]
  refine ⟨fun x hx => ?_, srt_st m hs fun i hi => ?_⟩
  · obtain ⟨i, hi, rfl⟩ := List.getElem_of_mem hx
    have := h i hi
    unfold okT at this
    rw [Bool.and_eq_true, getD_some m i hi] at this
    exact this.1
  · have := h (i + 1) hi
    unfold okT at this
    rw [Bool.and_eq_true, getD_some m _ hi, Nat.add_sub_cancel, getD_some m i (by omega), Bool.or_eq_true] at this
    rcases this.2 with h | h
    · simp at h
    · intro e
      rw [e] at h
      have := (eqS_iff m[i + 1].1 m[i + 1].1).2 rfl
      rw [this] at h; simp at h
theorem st_ne {m : List Tab} (h : StT m) {i j : Nat} (hi : i < j) (hj : j < m.length) : m[i].1 ≠ m[j].1 := by
  have := (List.pairwise_iff_getElem.1 h) i j (by omega) hj hi
  intro e
  rw [e, less_irrefl] at this; cases this
theorem go_ok (m : List Tab) (h : goM m) : okA m := by
  obtain ⟨h1, h2⟩ := (go_iff m).1 h
  intro i hi
  unfold okT
  rw [getD_some m i hi, h1 _ (List.getElem_mem hi), Bool.true_and, Bool.or_eq_true, decide_eq_true_eq]
  rcases Nat.eq_zero_or_pos i with h0 | h0
  · exact Or.inl h0
  · right
    rw [getD_some m (i - 1) (by omega), eqS_no (fun e => st_ne h2 (show i - 1 < i by omega) hi e.symm)]; rfl
theorem both_sort (l m : List Tab) (hp : m.Perm l) (hs : Srt m) : (okA (sorV l) → m = sorV l) ∧ (goM m → m = sorV l) := by
  constructor
  · intro h
    have h1 := ok_go _ (sor_srt l) h
    exact (srt_uniq (sorV l) m ((sor_perm l).trans hp.symm) ((go_iff _).1 h1).2 hs).symm
  · intro h
    exact srt_uniq m (sorV l) (hp.trans (sor_perm l).symm) ((go_iff _).1 h).2 (sor_srt l)
theorem ok_iff_go (l m : List Tab) (hp : m.Perm l) (hs : Srt m) : okA (sorV l) ↔ goM m := by
  constructor
  · intro h
    rw [(both_sort l m hp hs).1 h]
    exact ok_go _ (sor_srt l) h
  · intro h
    rw [← (both_sort l m hp hs).2 h]
    exact go_ok m h
theorem sz_great (m : List Tab) : ∀ k, 1048576 < szT m k → 1048576 < plT m k
  | 0, h => by unfold plT; rw [szT] at h; rw [bodT]; simp; omega
  | k + 1, h => by
    have ih := sz_great m k
    have e : plT m (k + 1) = plT m k + ((m.getD k tz).2.size + 3) / 4 * 4 := by
      unfold plT
      rw [bodT, List.length_append, padT_sz, ← Lib.size_eq]
      unfold dOf; rw [ownS_size]; omega
    rw [e]
    rw [szT] at h
    split at h
    · rename_i h'
      rcases h' with h' | h'
      · omega
      · have := ih h'; omega
    · rename_i h'
      have : szT m k = plT m k := (pl_sz m k (by omega)).symm
      omega
theorem pl_step (m : List Tab) (k : Nat) : plT m (k + 1) = plT m k + ((m.getD k tz).2.size + 3) / 4 * 4 := by
  unfold plT
  rw [bodT, List.length_append, padT_sz, ← Lib.size_eq]
  unfold dOf; rw [ownS_size]; omega
theorem sz_iff (m : List Tab) (k : Nat) : 1048576 < szT m k ↔ 1048576 < plT m k := by
  constructor
  · exact sz_great m k
  · intro h
    rcases Nat.lt_or_ge 1048576 (szT m k) with h' | h'
    · exact h'
    · have := pl_sz m k h'; omega
theorem err_of (l m : List Tab) (hp : m.Perm l) (hs : Srt m) (h1 : 1 ≤ l.length) (h2 : l.length ≤ 32) :
    (¬ goM m → bErr l = 80) ∧ (goM m → 1048576 < plT m m.length → bErr l = 2) ∧ (goM m → plT m m.length ≤ 1048576 → bErr l = 0 ∧ m = sorV l) := by
  have hi := ok_iff_go l m hp hs
  have hl : m.length = l.length := hp.length_eq
  have e : bErr l = if okA (sorV l) then (if 1048576 < szT (sorV l) l.length then 2 else 0) else 80 := by unfold bErr; rw [if_neg (by omega)]
  refine ⟨fun h => by rw [e, if_neg (fun h' => h (hi.1 h'))], fun h hz => ?_, fun h hz => ?_⟩
  · have em := (both_sort l m hp hs).2 h
    rw [e, if_pos (hi.2 h), if_pos]
    rw [← em, ← hl]
    exact (sz_iff m _).2 hz
  · have em := (both_sort l m hp hs).2 h
    refine ⟨?_, em⟩
    rw [e, if_pos (hi.2 h), if_neg]
    rw [← em, ← hl, sz_iff]; omega
end Go.Proofs.YtpdfpbbamnhkfaaGreatDoor.S8
namespace Go.Proofs.YtpdfpbbamnhkfaaGreatDoor.S8
open Go.RowKit Go.Deep
set_option linter.unusedVariables false
set_option linter.unusedSimpArgs false
def lyRw (m : List Tab) (k : Nat) : Rw := ⟨(m.getD k tz).1.data.toList.getD 0 0, (m.getD k tz).1.data.toList.getD 1 0, (m.getD k tz).1.data.toList.getD 2 0, (m.getD k tz).1.data.toList.getD 3 0, 0, (plT m k : Int), ((m.getD k tz).2.size : Int)⟩
def lyRs (m : List Tab) (k : Nat) : List Rw := (List.range k).map (lyRw m)
theorem lyRs_len (m : List Tab) (k : Nat) : (lyRs m k).length = k := by unfold lyRs; simp
theorem lyRs_succ (m : List Tab) (k : Nat) : lyRs m (k + 1) = lyRs m k ++ [lyRw m k] := by unfold lyRs; exact map_range_succ _ _
theorem lyRs_at (m : List Tab) (n i : Nat) (h : i < n) : (lyRs m n)[i]? = some (lyRw m i) := by unfold lyRs; simp [h]
theorem tgT_ly (m : List Tab) (k : Nat) (h : (m.getD k tz).1.size = 4) : tgT (lyRw m k) = (m.getD k tz).1.data.toList := by
  obtain ⟨b0, b1, b2, b3, e⟩ := four_of h
  unfold tgT lyRw
  rw [e]; rfl
theorem goodT_ly (m : List Tab) (k : Nat) (h : (m.getD k tz).1.size = 4) : goodT (lyRw m k) = tagB (m.getD k tz).1 := by
  obtain ⟨b0, b1, b2, b3, e⟩ := four_of h
  unfold goodT lyRw tagB
  rw [e]; rfl
theorem rise_eq : ∀ (rs : List Rw) (m : List Tab) (a : List UInt8), rs.length = m.length → (∀ (i : Nat) (r : Rw) (x : Tab), rs[i]? = some r → m[i]? = some x → tgT r = x.1.toList ∧ goodT r = tagB x.1) → riseB a rs = riseM a m
  | [], [], a, _, _ => rfl
  | [], x :: m, a, h, _ => by simp at h
  | r :: rs, [], a, h, _ => by simp at h
  | r :: rs, x :: m, a, h, hh => by
    obtain ⟨h1, h2⟩ := hh 0 r x rfl rfl
    rw [riseB, riseM, h1, h2, rise_eq rs m _ (by simpa using h) (fun i r' x' hi hx => hh (i + 1) r' x' (by simpa using hi) (by simpa using hx))]
theorem rise_ly (m : List Tab) (n : Nat) (hn : m.length = n) (h : ∀ x ∈ m, x.1.size = 4) : riseB [0, 0, 0, 0] (lyRs m n) = riseM [0, 0, 0, 0] m := by
  refine rise_eq _ _ _ (by rw [lyRs_len, hn]) fun i r x hi hx => ?_
  obtain ⟨hil, hxe⟩ := List.getElem?_eq_some_iff.1 hx
  rw [lyRs_at m n i (by omega)] at hi
  have e : m.getD i tz = x := by rw [getD_some m i hil, hxe]
  have h4 : (m.getD i tz).1.size = 4 := by rw [e]; exact h x (List.mem_of_getElem? hx)
  injection hi with hi
  subst hi
  exact ⟨by rw [tgT_ly m i h4, e, Lib.toList_data], by rw [goodT_ly m i h4, e]⟩
theorem pl_bd (m : List Tab) (n : Nat) (hn : m.length ≤ 32) (hz : ∀ x ∈ m, x.2.size ≤ 1073741824) : ∀ k, k ≤ n → n ≤ m.length → plT m k ≤ 1000 + k * 1073741828
  | 0, _, _ => by unfold plT; rw [bodT]; simp; omega
  | k + 1, hk, h => by
    have ih := pl_bd m n hn hz k (by omega) h
    rw [pl_step]
    have := hz _ (List.getElem_mem (show k < m.length by omega))
    rw [getD_some m k (by omega)]
    omega
theorem copy_tagG (V : World) (b : Nat) (b0 b1 b2 b3 : UInt8) (x4 x5 x6 : Value) (k : Blk V b #[.int .u8 0, .int .u8 0, .int .u8 0, .int .u8 0, x4, x5, x6] 178) :
    ∃ W2, (Builtin.copy_ #[128, 9] 3 #[.slice (some ⟨b, 0, none⟩) 4 4, .string (tgS b0 b1 b2 b3)]).run Tryz.prog V = .ok (.int .i64 4) W2 ∧ Blk W2 b #[.int .u8 (b0.toNat : Int), .int .u8 (b1.toNat : Int), .int .u8 (b2.toNat : Int), .int .u8 (b3.toNat : Int), x4, x5, x6] 178 ∧ Below b V W2 := by
  have hcp := run_copy_str8 V 3 b 0 4 4 (tgS b0 b1 b2 b3) (by show 4 ≤ 4; omega) (fun j hj => by rw [Nat.zero_add, k.cell j]; simp; omega) (fun j hj => k.frozen _)
  have h0 : Blk (V.setCell ⟨b, 0, none⟩ (.int .u8 (b0.toNat : Int))) b #[.int .u8 (b0.toNat : Int), .int .u8 0, .int .u8 0, .int .u8 0, x4, x5, x6] 178 := k.set 0 _
  have h1 : Blk ((V.setCell ⟨b, 0, none⟩ (.int .u8 (b0.toNat : Int))).setCell ⟨b, 1, none⟩ (.int .u8 (b1.toNat : Int))) b #[.int .u8 (b0.toNat : Int), .int .u8 (b1.toNat : Int), .int .u8 0, .int .u8 0, x4, x5, x6] 178 := h0.set 1 _
  have h2 : Blk (((V.setCell ⟨b, 0, none⟩ (.int .u8 (b0.toNat : Int))).setCell ⟨b, 1, none⟩ (.int .u8 (b1.toNat : Int))).setCell ⟨b, 2, none⟩ (.int .u8 (b2.toNat : Int))) b #[.int .u8 (b0.toNat : Int), .int .u8 (b1.toNat : Int), .int .u8 (b2.toNat : Int), .int .u8 0, x4, x5, x6] 178 := h1.set 2 _
  have h3 : Blk ((((V.setCell ⟨b, 0, none⟩ (.int .u8 (b0.toNat : Int))).setCell ⟨b, 1, none⟩ (.int .u8 (b1.toNat : Int))).setCell ⟨b, 2, none⟩ (.int .u8 (b2.toNat : Int))).setCell ⟨b, 3, none⟩ (.int .u8 (b3.toNat : Int))) b #[.int .u8 (b0.toNat : Int), .int .u8 (b1.toNat : Int), .int .u8 (b2.toNat : Int), .int .u8 (b3.toNat : Int), x4, x5, x6] 178 := h2.set 3 _
  refine ⟨_, hcp, h3, ?_⟩
  exact ((((Below.refl b V).setCell (p := ⟨b, 0, none⟩) (Nat.le_refl _) (.int .u8 (b0.toNat : Int))).setCell (p := ⟨b, 1, none⟩) (Nat.le_refl _) (.int .u8 (b1.toNat : Int))).setCell (p := ⟨b, 2, none⟩) (Nat.le_refl _) (.int .u8 (b2.toNat : Int))).setCell (p := ⟨b, 3, none⟩) (Nat.le_refl _) (.int .u8 (b3.toNat : Int))
theorem RAt.of {w : World} {b : Nat} {r : Rw} {t : TypeId} (K : Blk w b (rwC r) t) : b < w.heap.size ∧ w.cell? ⟨b, 0, none⟩ = some (.int .u8 (r.b0.toNat : Int)) ∧ w.cell? ⟨b, 1, none⟩ = some (.int .u8 (r.b1.toNat : Int)) ∧ w.cell? ⟨b, 2, none⟩ = some (.int .u8 (r.b2.toNat : Int)) ∧ w.cell? ⟨b, 3, none⟩ = some (.int .u8 (r.b3.toNat : Int)) ∧ w.cell? ⟨b, 4, none⟩ = some (.int .i64 r.sum) ∧ w.cell? ⟨b, 5, none⟩ = some (.int .i64 r.pl) ∧ w.cell? ⟨b, 6, none⟩ = some (.int .i64 r.ln) :=
  ⟨K.lt, K.cell 0, K.cell 1, K.cell 2, K.cell 3, K.cell 4, K.cell 5, K.cell 6⟩
def LyR (w : World) (m : List Tab) (n : Nat) (e : Ending) (w' : World) : Prop :=
  Below w.heap.size w w' ∧ (((∃ x ∈ m, x.1.size ≠ 4) ∧ e = .returned (.tuple #[.slice none 0 0, .int .i64 0, .bool false])) ∨
    ((∀ x ∈ m, x.1.size = 4) ∧ ∃ b cap, e = .returned (.tuple #[.slice (some ⟨b, 0, none⟩) n cap, .int .i64 (plT m n : Int), .bool (riseM [0, 0, 0, 0] m)]) ∧ RLst w' b (lyRs m n)))
set_option maxRecDepth 8000 in
set_option maxHeartbeats 4000000 in
theorem lay_any (g c n : Nat) (m : List Tab) (w : World) (hn : m.length = n) (h1 : 1 ≤ n) (h2 : n ≤ 32) (hz : ∀ x ∈ m, x.1.size ≤ 1073741824 ∧ x.2.size ≤ 1073741824) (hg : g < w.heap.size)
    (hL : ∀ i x, m[i]? = some x → w.cell? ⟨g, i * 2, none⟩ = some (.string x.1) ∧ w.cell? ⟨g, i * 2 + 1, none⟩ = some (.string x.2)) :
    Calls Tryz.prog 101 #[.slice (some ⟨g, 0, none⟩) n c] w (LyR w m n) := by
  have h1' : (1 : Int) ≤ (n : Int) := by omega
  have h2' : (n : Int) ≤ 32 := by omega
  have CD1 := hide (fun (w : World) => dsize_any (n : Int) w (by omega) (by omega))
  have CF := hide (fun (x : Int) (w : World) h0 h1 => filled_any x w h0 h1)
  have HL := hide hL
  have HN := hide hn
  have HZ := hide hz
  have HP := hide (pl_bd m n (by omega) (fun x hx => (hz x hx).2))
  have H12 := hide (And.intro h1 h2)
  clear hL hn hz h1 h2
  go_enter Tryz.func101, Tryz.ntmps101
  go_wp2_with (go_at_call 142; refine (CD1.out _).mono ?_; rintro e w' ⟨rfl, hw'⟩; replace hw' := hw'.symm; subst hw')
  go_loopw [5, 6, 15] (fun vr vs vi wr => ∃ k : Nat, vi = .int .i64 k ∧ vs = .int .i64 (plT m k : Int) ∧ Hid (k ≤ n ∧ RRow wr w.heap.size vr (lyRs m k) ∧ Below w.heap.size w wr ∧ ∀ i x, i < k → m[i]? = some x → x.1.size = 4)) (fun _ _ vi _ => n - (intOf vi).toNat)
  case atStart =>
    refine ⟨0, rfl, ?_, hide ⟨by omega, RRow.nil _ _, Below.refl _ _, fun i x hi => by omega⟩⟩
    unfold plT
    rw [bodT, HN.out]
    simp
  case round =>
    obtain ⟨vr, hvr⟩ : ∃ v, v = u5 := ⟨_, rfl⟩
    subst hvr
    obtain ⟨k, rfl, rfl, HV⟩ := hrel
    obtain ⟨hk, hT, hb, hall⟩ := HV.out
    have hk0 : (0 : Int) ≤ (k : Int) := by omega
    clear HV
    by_cases hlt : k < n
    case neg =>
      obtain rfl : n = k := by omega
      have hlt' : ¬ (n : Int) < (n : Int) := by omega
      have ha4 : ∀ x ∈ m, x.1.size = 4 := fun x hx => by
        obtain ⟨i, hi, rfl⟩ := List.getElem_of_mem hx
        exact hall i _ (by have := HN.out; omega) (List.getElem?_eq_getElem hi)
      obtain ⟨b, cap, hv, hRL⟩ := hT.lst (by rw [lyRs_len]; have := H12.out; omega)
      rw [lyRs_len] at hv
      subst hv
      have hte := tagsRise_any (lyRs m n) b n cap wr (lyRs_len _ _) (by have := H12.out; omega) hRL
      rw [rise_ly m n HN.out ha4] at hte
      have CT := hide hte
      have HRL := hide hRL
      have HB := hide hb
      have HA4 := hide ha4
      clear hT hb hall hRL ha4 hte
      go_wp2_with (go_at_call 144; refine CT.out.mono ?_; rintro e w9 ⟨rfl, h9⟩)
      go_ret3
      exact ⟨below_t5 HB.out h9, Or.inr ⟨HA4.out, _, _, rfl, HRL.out.below h9⟩⟩
    have hlt' : (k : Int) < (n : Int) := by omega
    obtain ⟨x, hx⟩ : ∃ x, m[k]? = some x := ⟨_, List.getElem?_eq_getElem (by have := HN.out; omega)⟩
    have hxm := List.mem_of_getElem? hx
    obtain ⟨c0, c1⟩ := HL.out k x hx
    rw [← hb.cell (p := ⟨g, k * 2, none⟩) hg] at c0
    rw [← hb.cell (p := ⟨g, k * 2 + 1, none⟩) hg] at c1
    obtain ⟨hz1, hz2⟩ := HZ.out x hxm
    have hxe : m.getD k tz = x := by rw [List.getD_eq_getElem?_getD, hx]; rfl
    have hgw : g < wr.heap.size := Nat.lt_of_lt_of_le hg hb.size
    have hne : g ≠ wr.heap.size := by omega
    obtain ⟨P, hP⟩ : ∃ P, plT m k = P := ⟨_, rfl⟩
    have hPb : (P : Int) ≤ 40000000000 := by have := HP.out k hk (by have := HN.out; omega); have := H12.out; rw [hP] at *; omega
    have hPn := pl_step m k
    rw [hP, hxe] at hPn
    have hly : lyRw m k = ⟨x.1.data.toList.getD 0 0, x.1.data.toList.getD 1 0, x.1.data.toList.getD 2 0, x.1.data.toList.getD 3 0, 0, (P : Int), (x.2.size : Int)⟩ := by unfold lyRw; rw [hxe, hP]
    rw [hP]
    obtain ⟨x1, x2⟩ := x
    simp only at c0 c1 hz1 hz2 hPn hly
    have hx2 : (x2.size : Int) ≤ 1073741824 := by omega
    have hx1 : (x1.size : Int) ≤ 1073741824 := by omega
    by_cases h4 : x1.size = 4
    case neg =>
      have h4' : ((x1.size : Int) != 4) = true := by simp; omega
      have HB := hide hb
      have HX := hide (show ∃ x ∈ m, x.1.size ≠ 4 from ⟨_, hxm, h4⟩)
      clear hT hb hall hx hxe hP hPn hly h4 hz1 hz2 hxm hPb
      go_wp2_with fail
      go_ret3
      exact ⟨HB.out.alloc HB.out.size _, Or.inl ⟨HX.out, rfl⟩⟩
    have h4' : ((x1.size : Int) != 4) = false := by simp; omega
    obtain ⟨b0, b1, b2, b3, rfl⟩ := four_of h4
    obtain ⟨va, vc, hvs⟩ := hT.shape
    rw [lyRs_len] at hvs
    subst hvs
    have hown : ∀ j, wr.heap.size ≤ j → some j ≠ (Value.slice va k vc).ownBlock := fun j hj e => by have := hT.own_lt e; omega
    have HOWN := hide hown
    have HT := hide hT
    have HB := hide hb
    have HALL := hide hall
    have HX := hide hx
    have HPN := hide hPn
    have HLY := hide hly
    have HLS := hide (lyRs_succ m k)
    clear hT hb hall hx hxe hP hPn hly h4 hz1 hz2 hxm hown
    go_wp2_with fail
    rename_i kk0
    have HA := hide kk0
    clear kk0
    have k0 := (Blk.new wr #[.string (tgS b0 b1 b2 b3), .string x2] 94).below ((Below.refl _ _).alloc (Nat.le_refl _) (.cells #[.int .u8 0, .int .u8 0, .int .u8 0, .int .u8 0, .int .i64 0, .int .i64 (P : Int), .int .i64 (x2.size : Int)] 178))
    have k1 := Blk.new (wr.alloc (.cells #[.string (tgS b0 b1 b2 b3), .string x2] 94)) #[.int .u8 0, .int .u8 0, .int .u8 0, .int .u8 0, .int .i64 0, .int .i64 (P : Int), .int .i64 (x2.size : Int)] 178
    rw [show (wr.alloc (.cells #[.string (tgS b0 b1 b2 b3), .string x2] 94)).heap.size = wr.heap.size + 1 by simp] at k1
    have hbv : Below wr.heap.size wr ((wr.alloc (.cells #[.string (tgS b0 b1 b2 b3), .string x2] 94)).alloc (.cells #[.int .u8 0, .int .u8 0, .int .u8 0, .int .u8 0, .int .i64 0, .int .i64 (P : Int), .int .i64 (x2.size : Int)] 178)) := ((Below.refl _ _).alloc (Nat.le_refl _) _).alloc (by simp) _
    generalize (wr.alloc (.cells #[.string (tgS b0 b1 b2 b3), .string x2] 94)).alloc (.cells #[.int .u8 0, .int .u8 0, .int .u8 0, .int .u8 0, .int .i64 0, .int .i64 (P : Int), .int .i64 (x2.size : Int)] 178) = V at k0 k1 hbv ⊢
    obtain ⟨W2, hcp, K2, hB2⟩ := copy_tagG V.drew (wr.heap.size + 1) b0 b1 b2 b3 _ _ _ k1
    have k02 : Blk W2 wr.heap.size #[.string (tgS b0 b1 b2 b3), .string x2] 94 := (show Blk V.drew wr.heap.size #[.string (tgS b0 b1 b2 b3), .string x2] 94 from k0).kept hB2 (by omega)
    have HS1 := hide (show V.drew.cell? ⟨wr.heap.size, 0, none⟩ = some (.string (tgS b0 b1 b2 b3)) from k0.cell 0)
    have HS2 := hide (show W2.cell? ⟨wr.heap.size, 0, none⟩ = some (.string (tgS b0 b1 b2 b3)) from k02.cell 0)
    have HCP := hide hcp
    have hB2' : Below wr.heap.size wr W2 := (Below.drew hbv).trans (hB2.mono (by omega))
    have hT2 := HT.out.later hB2'
    have hw2 : w.heap.size ≤ W2.heap.size := Nat.le_trans HB.out.size hB2'.size
    obtain ⟨gn, cap, w3, hr3, hT3, hB3, hkp⟩ := app_rowG (W := W2) ⟨b0, b1, b2, b3, 0, (P : Int), (x2.size : Int)⟩ hT2 hw2 (LT := k) ⟨lyRs_len _ _, by have := H12.out; omega⟩ _ rfl
    have K3 : Blk w3 (wr.heap.size + 1) (rwC ⟨b0, b1, b2, b3, 0, (P : Int), (x2.size : Int)⟩) 178 := by
      have := hkp (wr.heap.size + 1) K2.lt (HOWN.out _ (by omega))
      unfold Blk at *
      rw [this]; exact K2
    have HR3 := hide hr3
    have HT3 := hide hT3
    have HB3 := hide ((HB.out.trans (hB2'.mono HB.out.size)).trans hB3)
    obtain ⟨r0, r1, r2, r3, r4, r5, r6, r7⟩ := RAt.of (r := ⟨b0, b1, b2, b3, 0, (P : Int), (x2.size : Int)⟩) K2
    have l6 := K3.cell 6
    simp at l6
    simp only at r1 r2 r3 r4 r5 r6 r7
    clear hcp k0 k1 hbv k02 hB2 hB2' K2 K3 hr3 hT3 hB3 c0 c1 hT2 hkp hw2 HT HOWN
    refine wp_region_held_drew (S := (fun x => x.cell? ⟨wr.heap.size, 0, none⟩ = some (.string (tgS b0 b1 b2 b3)))) (by kernel_rfl) (HS1.out) (fun hHeld => ?_)
    refine takeW (i := 0) (d := 28) (v := .pointer (some ⟨wr.heap.size + 1, 0, none⟩)) rfl rfl (by kernel_rfl) (by kernel_rfl) (by kernel_rfl) (fun _ _ _ h => h) (by rfl) ?_ (by assumption) ?_
    · intro x hSx
      have q0 := hSx
      go_simp
    simp only [Act.put, List.setIfInBounds_toArray, List.set_cons_zero, List.set_cons_succ]
    refine takeW (i := 1) (d := 29) (v := .slice (some ⟨wr.heap.size + 1, 0, none⟩) 4 4) rfl rfl (by kernel_rfl) (by kernel_rfl) (by kernel_rfl) (fun _ _ _ h => h) (by rfl) ?_ (by assumption) ?_
    · intro x hSx
      have q0 := hSx
      go_simp
    simp only [Act.put, List.setIfInBounds_toArray, List.set_cons_zero, List.set_cons_succ]
    refine takeW (i := 2) (d := 30) (v := .pointer (some ⟨wr.heap.size, 0, none⟩)) rfl rfl (by kernel_rfl) (by kernel_rfl) (by kernel_rfl) (fun _ _ _ h => h) (by rfl) ?_ (by assumption) ?_
    · intro x hSx
      have q0 := hSx
      go_simp
    simp only [Act.put, List.setIfInBounds_toArray, List.set_cons_zero, List.set_cons_succ]
    refine takeW (i := 3) (d := 31) (v := .string (tgS b0 b1 b2 b3)) rfl rfl (by kernel_rfl) (by kernel_rfl) (by kernel_rfl) (fun _ _ _ h => h) (by rfl) ?_ (by assumption) ?_
    · intro x hSx
      have q0 := hSx
      go_simp
    simp only [Act.put, List.setIfInBounds_toArray, List.set_cons_zero, List.set_cons_succ]
    refine wpAnyH_ready (rs := [4]) (by kernel_rfl) (by simp) ?_
    refine AllReadyH.cons rfl (fun K hK => ?_) AllReadyH.nil
    rw [if_pos (by rfl)]
    refine Lib.wp_copy_run _ _ _ _ _ rfl _ _ rfl rfl HCP.out ?_
    refine hK.out _ _ HS2.out (fun hHeld => ?_)
    clear hK K
    refine wpAnyH_done (by kernel_rfl) ?_ _
    refine HA.out _ _ ?_
    clear HA HS1 HS2 HCP
    go_wp2_with (first | (at_builtin; refine Lib.wpList_append_run _ rfl _ _ _ _ rfl _ _ rfl rfl _ _ HR3.out ?_) | (go_at_call 143; refine (CF.out _ _ (by omega) (by omega)).mono ?_; rintro e w' ⟨rfl, hw'⟩; replace hw' := hw'.symm; subst hw'))
    go_roundw
    case rel =>
      refine ⟨k + 1, by go_num, ?_, hide ⟨by omega, ?_, HB3.out, ?_⟩⟩
      · rw [HPN.out]; go_num
      · rw [HLS.out, HLY.out]; exact HT3.out
      · intro i x hi hx
        rcases Nat.lt_or_ge i k with h | h
        · exact HALL.out i x h hx
        · obtain rfl : i = k := by omega
          rw [HX.out] at hx
          injection hx with hx
          rw [← hx]; rfl
    case measure => simp [intOf]; omega
end Go.Proofs.YtpdfpbbamnhkfaaGreatDoor.S8
namespace Go.Proofs.YtpdfpbbamnhkfaaGreatDoor.S8
open Go.RowKit Go.Deep
set_option linter.unusedVariables false
theorem eqS_hd (x : ByteArray) : eqS x ⟨#[104, 101, 97, 100]⟩ = (x.toList == [104, 101, 97, 100]) := by unfold eqS; rw [Lib.toList_data (⟨#[104, 101, 97, 100]⟩ : ByteArray)]
end Go.Proofs.YtpdfpbbamnhkfaaGreatDoor.S8
