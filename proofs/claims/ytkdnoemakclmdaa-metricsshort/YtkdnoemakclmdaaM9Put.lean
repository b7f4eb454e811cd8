/-
  A draft's bytes in memory; what put, named answer.
-/
import Derived.Test.YtkdnoemakclmdaaM9Rdr
namespace Go.Proofs.Ytkdnoemakclmdaa
open Go.RowKit Go.Deep
set_option linter.unusedVariables false

def hiB (x : Int) : UInt8 := UInt8.ofNat (x / 256 % 256).toNat
def loB (x : Int) : UInt8 := UInt8.ofNat (x % 256).toNat
theorem hiB_cell (x : Int) : bcell (hiB x) = .int .u8 (x / 256 % 256) := by
  unfold bcell hiB
  have h0 : 0 ≤ x / 256 % 256 := Int.emod_nonneg _ (by omega)
  have h1 : x / 256 % 256 < 256 := Int.emod_lt_of_pos _ (by omega)
  rw [UInt8.toNat_ofNat']
  congr 1
  omega
theorem loB_cell (x : Int) : bcell (loB x) = .int .u8 (x % 256) := by
  unfold bcell loB
  have h0 : 0 ≤ x % 256 := Int.emod_nonneg _ (by omega)
  have h1 : x % 256 < 256 := Int.emod_lt_of_pos _ (by omega)
  rw [UInt8.toNat_ofNat']
  congr 1
  omega
def put1 (ys : List UInt8) (k : Nat) (x : Int) : List UInt8 := (ys.set k (hiB x)).set (k + 1) (loB x)
def putL (ys : List UInt8) (k : Nat) : List Int → List UInt8
  | [] => ys
  | x :: r => putL (put1 ys k x) (k + 2) r
theorem putL_snoc : ∀ (zs : List Int) (ys : List UInt8) (k : Nat) (x : Int), putL ys k (zs ++ [x]) = put1 (putL ys k zs) (k + 2 * zs.length) x
  | [], ys, k, x => rfl
  | z :: zs, ys, k, x => by
    rw [List.cons_append, putL, putL, putL_snoc zs, List.length_cons, show k + 2 + 2 * zs.length = k + 2 * (zs.length + 1) by omega]
theorem put1_len (ys : List UInt8) (k : Nat) (x : Int) : (put1 ys k x).length = ys.length := by simp [put1]
theorem putL_len : ∀ (zs : List Int) (ys : List UInt8) (k : Nat), (putL ys k zs).length = ys.length
  | [], ys, k => rfl
  | z :: zs, ys, k => by rw [putL, putL_len zs, put1_len]
def bcs (ys : List UInt8) : Array Value := (ys.map bcell).toArray
theorem bcs_set (ys : List UInt8) (k : Nat) (c : UInt8) : (bcs ys).setIfInBounds k (bcell c) = bcs (ys.set k c) := by
  unfold bcs
  rw [List.setIfInBounds_toArray, List.map_set]
theorem bcs_at (ys : List UInt8) (k : Nat) (h : k < ys.length) : (bcs ys)[k]? = some (bcell ys[k]) := by
  unfold bcs; simp [h]
theorem bcell_form (c : UInt8) : bcell c = .int .u8 (c.toNat : Int) := rfl
theorem blk_put1 {w : World} {g : Nat} {ys : List UInt8} (h : Blk w g (bcs ys) 5) (k : Nat) (x : Int) :
    Blk ((w.setCell ⟨g, k, none⟩ (.int .u8 (x / 256 % 256))).setCell ⟨g, k + 1, none⟩ (.int .u8 (x % 256))) g (bcs (put1 ys k x)) 5 := by
  rw [← hiB_cell, ← loB_cell]
  have := Blk.set (Blk.set h k (bcell (hiB x))) (k + 1) (bcell (loB x))
  rw [bcs_set, bcs_set] at this
  exact this
set_option maxHeartbeats 4000000 in
theorem put_any (g : Nat) (ys : List UInt8) (z : Int) (k : Nat) (a : Option Addr) (zs : List Int) (L n c : Nat) (w : World) (hz : z = (k : Int)) (hL : ys.length = L) (hn : zs.length = n) (hk : k + 2 * n ≤ L) (hm : L ≤ 1000000)
    (hx : ∀ x ∈ zs, -4611686018427387904 ≤ x ∧ x ≤ 4611686018427387904) (hB : Blk w g (bcs ys) 5) (hA : zs = [] ∨ ∃ b off, a = some ⟨b, off, none⟩ ∧ b ≠ g ∧ b < w.heap.size ∧ ∀ i, i < zs.length → w.cell? ⟨b, off + i, none⟩ = some (.int .i64 (zs.getD i 0))) :
    Calls Try.prog 21 #[.slice (some ⟨g, 0, none⟩) L L, .int .i64 z, .slice a n c] w fun e w' => e = .returned (.tuple #[]) ∧ Blk w' g (bcs (putL ys k zs)) 5 ∧ But g w w' := by
  subst hz
  have hm' : (L : Int) ≤ 1000000 := by omega
  have hn' : (n : Int) ≤ 1000000 := by omega
  have hk' : (k : Int) + 2 * (n : Int) ≤ (L : Int) := by omega
  have hk0 : (0 : Int) ≤ (k : Int) := by omega
  have HF := hide (And.intro hL (And.intro hn (And.intro hk hm)))
  have HX := hide hx
  have HB := hide hB
  have HA := hide hA
  clear hL hn hk hm hx hB hA
  go_enter Try.func21, Try.ntmps21
  go_wp2_with fail
  go_loopw [10] (fun vi wr => ∃ (i : Nat), vi = .int .i64 i ∧ Hid (i ≤ n ∧ Blk wr g (bcs (putL ys k (zs.take i))) 5 ∧ But g w wr)) (fun vi _ => n - (intOf vi).toNat)
  case atStart => exact ⟨0, rfl, hide ⟨by omega, HB.out, But.refl _ _⟩⟩
  case round =>
    obtain ⟨i, rfl, HV⟩ := hrel
    obtain ⟨hi, hb, ho⟩ := HV.out
    have hi0 : (0 : Int) ≤ (i : Int) := by omega
    have HBB := hide hb
    have HO := hide ho
    clear HV
    by_cases hlt : i < n
    case neg =>
      have hlt' : ¬ (i : Int) < (n : Int) := by omega
      have E : Hid (zs.take i = zs) := hide (List.take_of_length_le (by have := HF.out; omega))
      clear hb ho hlt
      go_wp2_with fail
      refine bodyPost_end (results_none rfl _ _ _) rfl ⟨rfl, ?_, HO.out⟩
      have := HBB.out
      rw [E.out] at this
      exact this
    have hlt' : (i : Int) < (n : Int) := by omega
    obtain ⟨f1, f2, f3, f4⟩ := HF.out
    rcases HA.out with hz | ⟨b, o, rfl, hbg, hbl, hcell⟩
    · rw [hz] at f2; simp at f2; omega
    have hc0 := hcell i (by omega)
    have hc : wr.cell? ⟨b, o + i, none⟩ = some (.int .i64 (zs.getD i 0)) := by
      rw [World.cell?_of_block (w := w) (ho.block _ hbl hbg)]; exact hc0
    have hbl' : b < wr.heap.size := Nat.lt_of_lt_of_le hbl ho.size
    have hxx := HX.out (zs.getD i 0) (by
      rw [List.getD_eq_getElem?_getD, List.getElem?_eq_getElem (by omega)]; exact List.getElem_mem _)
    obtain ⟨J, hJ⟩ : ∃ J : Nat, J = k + 2 * i := ⟨_, rfl⟩
    have hJ1 : (k : Int) + 2 * (i : Int) = (J : Int) := by omega
    have hJ2 : (J : Int) + 1 < (L : Int) := by omega
    have hJ3 : (J : Int) < (L : Int) := by omega
    have hJ4 : (0 : Int) ≤ (J : Int) := by omega
    have hlen : (putL ys k (zs.take i)).length = L := by rw [putL_len]; exact f1
    have c1 : ∃ v, wr.cell? ⟨g, J, none⟩ = some (.int .u8 v) := ⟨_, by rw [hb.cell J, bcs_at _ _ (by omega), bcell_form]⟩
    have c2 : ∃ v, wr.cell? ⟨g, J + 1, none⟩ = some (.int .u8 v) := ⟨_, by rw [hb.cell (J + 1), bcs_at _ _ (by omega), bcell_form]⟩
    obtain ⟨v1, c1⟩ := c1
    obtain ⟨v2, c2⟩ := c2
    have q1 := hb.frozen J
    have q2 := hb.frozen (J + 1)
    have hglt := hb.lt
    have E : Hid (Blk ((wr.setCell ⟨g, J, none⟩ (.int .u8 (zs.getD i 0 / 256 % 256))).setCell ⟨g, J + 1, none⟩ (.int .u8 (zs.getD i 0 % 256))) g (bcs (putL ys k (zs.take (i + 1)))) 5) := hide (by
      have := blk_put1 hb J (zs.getD i 0)
      have e : zs.take (i + 1) = zs.take i ++ [zs.getD i 0] := by
        rw [List.take_succ_eq_append_getElem (by omega), List.getD_eq_getElem?_getD, List.getElem?_eq_getElem (by omega)]; rfl
      rw [e, putL_snoc, List.length_take, Nat.min_eq_left (by omega), ← hJ]
      exact this)
    have EO : Hid (But g w ((wr.setCell ⟨g, J, none⟩ (.int .u8 (zs.getD i 0 / 256 % 256))).setCell ⟨g, J + 1, none⟩ (.int .u8 (zs.getD i 0 % 256)))) := hide (ho.trans ((But.setCell g _ J _).trans (But.setCell g _ (J + 1) _)))
    generalize zs.getD i 0 = x at hc hxx E EO
    obtain ⟨hx0, hx1⟩ := hxx
    clear hb ho hcell hc0 hbl hbg f1 f2 f3 f4 hJ hlen HA
    go_wp2_with fail
    go_roundw
    case rel => exact ⟨i + 1, by go_num, hide ⟨by omega, E.out, EO.out⟩⟩
    case measure => simp [intOf]; omega
end Go.Proofs.Ytkdnoemakclmdaa
