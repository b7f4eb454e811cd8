/-
  What the reference's Build writes, in plain words: the rows, the body, the place of the font's own number.
-/
import Derived.Test.YtgmmhlpdkoiheaaDoorS8Se
namespace Go.Proofs.YtgmmhlpdkoiheaaDoor
open Go.RowKit Go.Deep
set_option linter.unusedVariables false

def ownS (t s : ByteArray) : ByteArray := match t.data.toList with
  | [b0, b1, b2, b3] => smS b0 b1 b2 b3 s
  | _ => s
theorem ownS_size (t s : ByteArray) : (ownS t s).size = s.size := by
  unfold ownS
  split
  · exact smS_size _ _ _ _ _
  · rfl
theorem tag_size {t : ByteArray} (h : tagB t = true) : t.size = 4 := by
  rcases Nat.decEq t.size 4 with h' | h'
  · rw [tagB_no h'] at h; simp at h
  · exact h'
theorem rowned_all (t s : ByteArray) (w : World) (ht : t.size = 4) (hs : s.size ≤ 1000000000) :
    Calls Tryd.prog 32 #[.string t, .string s] w fun e w' => e = .returned (.string (ownS t s)) ∧ ∃ n, w' = w.drewN n := by
  obtain ⟨b0, b1, b2, b3, rfl⟩ := four_of ht
  exact rowned_any b0 b1 b2 b3 s w hs
def dOf (m : List Tab) (k : Nat) : ByteArray := ownS (m.getD k tz).1 (m.getD k tz).2
def bodT (m : List Tab) : Nat → List UInt8
  | 0 => []
  | k + 1 => bodT m k ++ padT (dOf m k).data.toList
def plT (m : List Tab) (k : Nat) : Nat := 12 + 16 * m.length + (bodT m k).length
def rowT (m : List Tab) : Nat → List UInt8
  | 0 => []
  | k + 1 => rowT m k ++ ((m.getD k tz).1.data.toList ++ f4 ((sumV (dOf m k).data.toList : Nat) : Int) ++ f4 (plT m k : Int) ++ f4 ((dOf m k).size : Int))
def owK (m : List Tab) : Nat → Int
  | 0 => -1
  | k + 1 => if (eqS (m.getD k tz).1 ⟨#[104, 101, 97, 100]⟩ && decide (12 ≤ (dOf m k).size)) = true then (plT m k : Int) + 8 else owK m k
theorem f4_len (x : Int) : (f4 x).length = 4 := by unfold f4; rw [List.length_append, nbT_len, nbT_len]
theorem padT_sz (l : List UInt8) : (padT l).length = (l.length + 3) / 4 * 4 := by
  unfold padT
  rw [List.length_append, List.length_replicate]
  omega
theorem szT_mono (m : List Tab) (k : Nat) (h : szT m (k + 1) ≤ 1048576) : szT m k ≤ 1048576 ∧ (m.getD k tz).2.size ≤ 1048576 ∧ szT m (k + 1) = szT m k + ((m.getD k tz).2.size + 3) / 4 * 4 := by
  rw [szT] at h ⊢
  split at h
  · omega
  · rename_i h'
    rw [if_neg h']
    omega
theorem szT_down (m : List Tab) (n : Nat) (h : szT m n ≤ 1048576) : ∀ d, d ≤ n → szT m (n - d) ≤ 1048576
  | 0, _ => h
  | d + 1, hd => by
    have ih := szT_down m n h d (by omega)
    have e : n - d = n - (d + 1) + 1 := by omega
    rw [e] at ih
    exact (szT_mono m _ ih).1
theorem pl_sz (m : List Tab) : ∀ k, szT m k ≤ 1048576 → plT m k = szT m k
  | 0, _ => by unfold plT; rw [szT, bodT]; simp
  | k + 1, h => by
    obtain ⟨h1, h2, h3⟩ := szT_mono m k h
    have ih := pl_sz m k h1
    unfold plT at *
    rw [bodT, List.length_append, padT_sz, h3, ← ih]
    have e : (dOf m k).data.toList.length = (m.getD k tz).2.size := by
      rw [← Lib.size_eq]; unfold dOf; exact ownS_size _ _
    rw [e]; omega
theorem pl_le (m : List Tab) (n k : Nat) (h : szT m n ≤ 1048576) (hk : k ≤ n) : plT m k ≤ 1048576 := by
  have := szT_down m n h (n - k) (by omega)
  rw [show n - (n - k) = k by omega] at this
  rw [pl_sz m k this]; exact this
theorem pl_next (m : List Tab) (k : Nat) : plT m k + (dOf m k).size ≤ plT m (k + 1) := by
  unfold plT
  rw [bodT, List.length_append, padT_sz, ← Lib.size_eq]; omega
theorem pl_mono (m : List Tab) (k : Nat) : ∀ d, plT m k ≤ plT m (k + d)
  | 0 => Nat.le_refl _
  | d + 1 => Nat.le_trans (pl_mono m k d) (Nat.le_trans (Nat.le_add_right _ _) (pl_next m (k + d)))
theorem row_len (m : List Tab) (hok : okA m) : ∀ k, k ≤ m.length → (rowT m k).length = 16 * k
  | 0, _ => rfl
  | k + 1, hk => by
    have ih := row_len m hok k (by omega)
    have h1 := hok k (by omega)
    unfold okT at h1
    rw [Bool.and_eq_true] at h1
    have h2 := tag_size h1.1
    rw [Lib.size_eq] at h2
    rw [rowT, List.length_append, List.length_append, List.length_append, List.length_append, ih, f4_len, f4_len, f4_len, h2]; omega
theorem ow_bd (m : List Tab) : ∀ k, owK m k = -1 ∨ ∃ j, j < k ∧ owK m k = (plT m j : Int) + 8 ∧ 12 ≤ (dOf m j).size
  | 0 => Or.inl rfl
  | k + 1 => by
    rw [owK]
    split
    · rename_i h
      rw [Bool.and_eq_true, decide_eq_true_eq] at h
      exact Or.inr ⟨k, by omega, rfl, h.2⟩
    · rcases ow_bd m k with h | ⟨j, h1, h2, h3⟩
      · exact Or.inl h
      · exact Or.inr ⟨j, by omega, h2, h3⟩
def txtV (m : List Tab) : List UInt8 :=
  let s := openT m.length ++ (rowT m m.length ++ bodT m m.length)
  if 0 ≤ owK m m.length then s.take (owK m m.length).toNat ++ (f4 ((2981146554 - ((sumV s : Nat) : Int)) % 4294967296) ++ s.drop ((owK m m.length).toNat + 4)) else s
end Go.Proofs.YtgmmhlpdkoiheaaDoor
