/-
  What Read answers of the shortened tables.
-/
import Derived.Test.YtkdnoemakclmdaaM9Mk
import Derived.Test.YtkdnoemakclmdaaM9RB
namespace Go.Proofs.Ytkdnoemakclmdaa
open Go.RowKit Go.Deep
set_option linter.unusedVariables false

theorem arr_congr {f f' : Nat → Int} {n : Nat} (h : ∀ i, i < n → f i = f' i) : arr f n n = arr f' n n := by
  apply Array.ext_getElem?
  intro j
  by_cases hj : j < n
  · rw [arr_at _ _ _ _ hj, arr_at _ _ _ _ hj, if_pos hj, if_pos hj, h j hj]
  · rw [Array.getElem?_eq_none (by rw [arr_size]; omega), Array.getElem?_eq_none (by rw [arr_size]; omega)]
def tabCS (m : Mt) (h n : Nat) : Array Value := #[.string headS, .string ⟨(hdT m).toArray⟩, .string hheaS, .string ⟨(hhT m h).toArray⟩, .string hmtxS, .string (shD m h), .string maxpS, .string ⟨(mxT n).toArray⟩]
def shF (ad : List Int) (h : Nat) : Nat → Int := fun i => ad.getD (min i (h - 1)) 0
theorem tabS_lst {w : World} {g n h : Nat} {m : Mt} (hn : m.ad.length = n) (hk : Blk w g (tabCS m h n) 34) : TLst w (some ⟨g, 0, none⟩) (tabsS m h) := by
  subst hn
  refine Or.inr ⟨g, 0, rfl, hk.lt, fun i x hx => ?_⟩
  rw [hk.cell, hk.cell]
  match i, hx with
  | 0, hx => simp [tabsS] at hx; subst hx; exact ⟨rfl, rfl⟩
  | 1, hx => simp [tabsS] at hx; subst hx; exact ⟨rfl, rfl⟩
  | 2, hx => simp [tabsS] at hx; subst hx; exact ⟨rfl, rfl⟩
  | 3, hx => simp [tabsS] at hx; subst hx; exact ⟨rfl, rfl⟩
  | i + 4, hx => simp [tabsS] at hx
theorem rds_any (m : Mt) (h g n : Nat) (w : World) (hg : goodB m = true) (hn : m.ad.length = n) (h0 : 1 ≤ h) (h1 : h ≤ n) (hk : Blk w g (tabCS m h n) 34) :
    Calls Try.prog 8 #[.slice (some ⟨g, 0, none⟩) 4 4] w fun e w' => ∃ (p q : Nat) (a0 a1 a2 a3 a4 a5 a6 a7 : Int) (bb : Bool), e = .returned (.tuple #[.agg #[.int .i64 a0, .int .i64 a1, .int .i64 a2, .int .i64 a3, .int .i64 a4, .int .i64 a5, .int .i64 a6, .int .i64 a7, .bool bb, .slice (some ⟨p, 0, none⟩) n n, .slice (some ⟨q, 0, none⟩) n n], .int .i64 0]) ∧
      Blk w' p (arr (shF m.ad h) n n) 3 ∧ Blk w' q (ints m.be) 3 ∧ w.heap.size ≤ p ∧ w.heap.size ≤ q ∧ p ≠ q ∧ Below w.heap.size w w' := by
  have h' := tabS_lst hn hk
  subst hn
  obtain ⟨_, _, _, g4, g5, _, _⟩ := good_in hg
  have B := short_of m h hg h0 h1
  have hl : (shD m h).size = 4 * h + 2 * (m.ad.length - h) := by
    have : (shB (hmT m.ad m.be m.ad.length) h (m.ad.length - h)).length = 4 * h + 2 * (m.ad.length - h) := shB_len _ _ _ (by rw [hmT_len]; omega)
    unfold shD
    simp [ByteArray.size, this]
  refine (rd_any (some ⟨g, 0, none⟩) (tabsS m h) 4 4 w rfl (by omega) (fun x hx => ?_) h').mono ?_
  · simp [tabsS] at hx
    rcases hx with rfl | rfl | rfl | rfl
    · simp [ByteArray.size, hdT_len]
    · simp [ByteArray.size, hhT_len]
    · show (shD m h).size ≤ _; omega
    · simp [ByteArray.size, mxT_len]
  · intro e w' hR
    rcases hR with ⟨hR, _⟩ | ⟨mx, hd, hh, hx, p, q, hR, rfl, hb, hp, hq, hpq, kp, kq⟩
    · rw [B.r] at hR; cases hR
    · rw [B.r] at hR
      injection hR with hR
      injection hR with e1 hR
      injection hR with e2 hR
      injection hR with e3 e4
      subst e1 e2 e3 e4
      have ea := arr_congr (f := advF (shD m h) (hV ⟨(hhT m h).toArray⟩)) (f' := shF m.ad h) B.ad
      have eb := arr_ints (f := beaF (shD m h) (hV ⟨(hhT m h).toArray⟩)) g5 B.be
      rw [B.n, ea] at kp
      rw [B.n, eb] at kq
      refine ⟨p, q, ?a0, ?a1, ?a2, ?a3, ?a4, ?a5, ?a6, ?a7, ?bb, ?eq, kp, kq, hp, hq, hpq, hb⟩
      case eq =>
        unfold mval
        rw [B.n]
theorem fin_box {V w : World} {y p q : Nat} {P Q : Array Value} (kz : Blk w y zeroC 25) (kp : Blk w p P 3) (kq : Blk w q Q 3) (hp : p ≠ y) (hq : q ≠ y) (hV : Below V.heap.size V w) (hy : V.heap.size ≤ y) (v0 v1 v2 v3 v4 v5 v6 v7 v8 v9 v10 : Value) :
    Blk (((((((((((w.setCell ⟨y, 0, none⟩ v0).setCell ⟨y, 1, none⟩ v1).setCell ⟨y, 2, none⟩ v2).setCell ⟨y, 3, none⟩ v3).setCell ⟨y, 4, none⟩ v4).setCell ⟨y, 5, none⟩ v5).setCell ⟨y, 6, none⟩ v6).setCell ⟨y, 7, none⟩ v7).setCell ⟨y, 8, none⟩ v8).setCell ⟨y, 9, none⟩ v9).setCell ⟨y, 10, none⟩ v10) y #[v0, v1, v2, v3, v4, v5, v6, v7, v8, v9, v10] 25 ∧ Blk (((((((((((w.setCell ⟨y, 0, none⟩ v0).setCell ⟨y, 1, none⟩ v1).setCell ⟨y, 2, none⟩ v2).setCell ⟨y, 3, none⟩ v3).setCell ⟨y, 4, none⟩ v4).setCell ⟨y, 5, none⟩ v5).setCell ⟨y, 6, none⟩ v6).setCell ⟨y, 7, none⟩ v7).setCell ⟨y, 8, none⟩ v8).setCell ⟨y, 9, none⟩ v9).setCell ⟨y, 10, none⟩ v10) p P 3 ∧ Blk (((((((((((w.setCell ⟨y, 0, none⟩ v0).setCell ⟨y, 1, none⟩ v1).setCell ⟨y, 2, none⟩ v2).setCell ⟨y, 3, none⟩ v3).setCell ⟨y, 4, none⟩ v4).setCell ⟨y, 5, none⟩ v5).setCell ⟨y, 6, none⟩ v6).setCell ⟨y, 7, none⟩ v7).setCell ⟨y, 8, none⟩ v8).setCell ⟨y, 9, none⟩ v9).setCell ⟨y, 10, none⟩ v10) q Q 3 ∧ Below V.heap.size V (((((((((((w.setCell ⟨y, 0, none⟩ v0).setCell ⟨y, 1, none⟩ v1).setCell ⟨y, 2, none⟩ v2).setCell ⟨y, 3, none⟩ v3).setCell ⟨y, 4, none⟩ v4).setCell ⟨y, 5, none⟩ v5).setCell ⟨y, 6, none⟩ v6).setCell ⟨y, 7, none⟩ v7).setCell ⟨y, 8, none⟩ v8).setCell ⟨y, 9, none⟩ v9).setCell ⟨y, 10, none⟩ v10) := by
  obtain ⟨h1, h2⟩ := store11 kz v0 v1 v2 v3 v4 v5 v6 v7 v8 v9 v10
  exact ⟨h1, h2.blk kp hp, h2.blk kq hq, h2.below hV hy⟩
theorem ba_app (l r : List UInt8) : (⟨l.toArray⟩ ++ ⟨r.toArray⟩ : ByteArray) = ⟨(l ++ r).toArray⟩ := by
  apply ByteArray.ext
  rw [ByteArray.data_append]
  simp
theorem hh_short (m : Mt) (n h : Nat) : ((⟨(hhT m n).toArray⟩ : ByteArray).extract 0 34 ++ ⟨#[hiB (h : Int), loB (h : Int)]⟩ : ByteArray) = ⟨(hhT m h).toArray⟩ := by
  rw [ext_list, List.drop_zero, Nat.sub_zero, ← short_hh m n h]
  exact ba_app _ _
end Go.Proofs.Ytkdnoemakclmdaa
