/-
  Glyphs in hexadecimal digits: what the landed glyphs answers.
-/
import Derived.Test.YthhhepbflggojaaDoorE15L
import Derived.Deep.RegionHeld3
namespace Go.Proofs.YthhhepbflggojaaDoor.E15
open Go.RowKit Go.Deep
set_option linter.unusedVariables false
set_option linter.unusedSimpArgs false
set_option maxRecDepth 8000

def hx (n : Nat) : UInt8 := UInt8.ofNat (if n < 10 then 48 + n else 87 + n)
abbrev hexS : ByteArray := ⟨#[48, 49, 50, 51, 52, 53, 54, 55, 56, 57, 97, 98, 99, 100, 101, 102]⟩
theorem hexS_at : ∀ n : Fin 16, hexS[n.val]'(by have := n.isLt; exact this) = hx n.val := by decide
theorem and15 (t : Int) : bits BinOp.and .i64 t 15 = t % 16 := by
  have e : bits BinOp.and .i64 t 15 = IntKind.i64.wrap (((BitVec.ofInt 64 t &&& BitVec.ofInt 64 15).toNat : Nat) : Int) := rfl
  rw [e, BitVec.toNat_and]
  have h2 : (BitVec.ofInt 64 15).toNat = 2 ^ 4 - 1 := by decide
  rw [h2, BitVec.toNat_ofInt, Nat.and_two_pow_sub_one_eq_mod, IntKind.wrap_i64]
  have h3 : (2 : Nat) ^ 4 = 16 := by decide
  have h4 : (((2 : Nat) ^ 64 : Nat) : Int) = 18446744073709551616 := by decide
  rw [h3, h4]
  omega
def g4 (g : Int) : List UInt8 := [hx (g.toNat / 4096 % 16), hx (g.toNat / 256 % 16), hx (g.toNat / 16 % 16), hx (g.toNat % 16)]
def gsT (zs : List Int) : List UInt8 := [60] ++ zs.flatMap g4 ++ [62]
theorem g4_len (zs : List Int) : (zs.flatMap g4).length = 4 * zs.length := by
  induction zs with
  | nil => rfl
  | cons x r ih => rw [List.flatMap_cons, List.length_append, ih]; simp [g4]; omega
theorem take_snoc (zs : List Int) (k : Nat) (h : k < zs.length) : zs.take (k + 1) = zs.take k ++ [zs.getD k 0] := by
  rw [List.take_add_one, List.getD_eq_getElem?_getD, List.getElem?_eq_getElem h]; rfl
set_option maxHeartbeats 4000000 in
theorem glyphs_any (a : Option Addr) (n c : Nat) (zs : List Int) (w : World) (hn : zs.length = n) (h1 : n ≤ 1048576) (hz : ∀ z ∈ zs, 0 ≤ z ∧ z ≤ 65535) (hA : Lst w a zs) :
    Calls Tryd.prog 49 #[.slice a n c] w fun e w' => e = .returned (.string ⟨(gsT zs).toArray⟩) ∧ Below w.heap.size w w' := by
  have h5 : (n : Int) ≤ 1048576 := by omega
  obtain ⟨i0, hi, hz0, hz1, hz2⟩ := info_parts5 info_u8
  have HI := hide hi
  have HI0 := hide hz0
  have HI1 := hide hz1
  have HI2 := hide hz2
  have HA := hide hA
  have Hn := hide hn
  have HZ := hide hz
  clear hi hz0 hz1 hz2 hA hn hz
  go_enter Tryd.func49, Tryd.ntmps49
  go_wp2_with (first | (at_make; refine wpList_make_own _ rfl _ _ 43 rfl w.heap.size 5 i0 (.int .u8 0) 1 Tryd.underlying43 HI.out HI0.out HI1.out _ _ _ (4 * n + 2) rfl rfl (by push_cast; rfl) (by rw [HI2.out]; omega) (by unfold maxLen; omega) (Nat.le_refl _) ?_; intro w1 hown hgrow; obtain ⟨v2, w2, hr2, hrow2, hkb2⟩ := app_b3 [60] (show BRow w1 w.heap.size _ [] from hown) hgrow.size (by simp) (by simp) w1.heap.size rfl; have HR2 := hide hr2; have HRW2 := hide hrow2; have HB2 := hide (((Below.refl w.heap.size w).grown hgrow (Nat.le_refl _) (fun k hk => by cases hk)).trans hkb2.below); clear hr2 hrow2 hkb2 hown hgrow) | (at_builtin; refine Lib.wpList_append_run _ rfl _ _ _ _ rfl _ _ rfl rfl _ _ HR2.out ?_; clear HR2))
  have HRW3 := hide (show BRow w2 w.heap.size v2 ([60] ++ (zs.take 0).flatMap g4) from by simpa using HRW2.out)
  clear HRW2
  go_loopw [3, 16] (fun vo vi wr => ∃ (k : Nat), vi = .int .i64 k ∧ Hid (k ≤ n ∧ Below w.heap.size w wr ∧ BRow wr w.heap.size vo ([60] ++ (zs.take k).flatMap g4))) (fun _ vi _ => n - (intOf vi).toNat)
  case atStart => exact ⟨0, rfl, hide ⟨by omega, HB2.out, HRW3.out⟩⟩
  case round =>
    clear HRW3 HB2
    obtain ⟨k, rfl, HK⟩ := hrel
    obtain ⟨hk, hb, hrow⟩ := HK.out
    have hk0 : (0 : Int) ≤ (k : Int) := by omega
    clear HK
    by_cases hlt : k < n
    case neg =>
      have hlt' : ¬ (k : Int) < (n : Int) := by omega
      rw [List.take_of_length_le (by rw [Hn.out]; omega)] at hrow
      obtain ⟨v6, w6, hr6, hrow6, hkb6⟩ := app_b3 [62] hrow hb.size (by simp) (by rw [List.length_append, g4_len, Hn.out]; simp; omega) wr.heap.size rfl
      have HR6 := hide hr6
      have hcv := hrow6.text
      have HB6 := hide (hb.trans hkb6.below)
      have HE := hide (show (⟨(([60] ++ zs.flatMap g4) ++ [62]).toArray⟩ : ByteArray) = ⟨(gsT zs).toArray⟩ from rfl)
      clear hr6 hrow6 hkb6 hrow hb hk
      generalize (⟨(([60] ++ zs.flatMap g4) ++ [62]).toArray⟩ : ByteArray) = T at hcv HE
      go_wp2_with (at_builtin; refine Lib.wpList_append_run _ rfl _ _ _ _ rfl _ _ rfl rfl _ _ HR6.out ?_)
      go_ret
      exact ⟨by rw [HE.out]; rfl, HB6.out⟩
    have hlt' : (k : Int) < (n : Int) := by omega
    have hl := Hn.out
    rcases HA.out.below hb with hz | ⟨b1, o1, rfl, hb1, hcell1⟩
    · rw [hz] at hl; simp at hl; omega
    have hc1 := hcell1 k (by omega)
    have hzk := HZ.out (zs.getD k 0) (by rw [List.getD_eq_getElem?_getD, List.getElem?_eq_getElem (by omega)]; exact List.getElem_mem _)
    have htk := take_snoc zs k (by omega)
    generalize zs.getD k 0 = z at *
    obtain ⟨G, rfl⟩ : ∃ G : Nat, z = (G : Int) := ⟨z.toNat, by omega⟩
    obtain ⟨d0, e0⟩ : ∃ a, G / 4096 % 16 = a := ⟨_, rfl⟩
    obtain ⟨d1, e1⟩ : ∃ a, G / 256 % 16 = a := ⟨_, rfl⟩
    obtain ⟨d2, e2⟩ : ∃ a, G / 16 % 16 = a := ⟨_, rfl⟩
    obtain ⟨d3, e3⟩ : ∃ a, G % 16 = a := ⟨_, rfl⟩
    have b0 : d0 < hexS.size := by show _ < 16; omega
    have b1' : d1 < hexS.size := by show _ < 16; omega
    have b2 : d2 < hexS.size := by show _ < 16; omega
    have b3 : d3 < hexS.size := by show _ < 16; omega
    have eg : g4 (G : Int) = [hexS[d0]'b0, hexS[d1]'b1', hexS[d2]'b2, hexS[d3]'b3] := by
      unfold g4
      rw [Int.toNat_natCast, e0, e1, e2, e3, ← hexS_at ⟨d0, b0⟩, ← hexS_at ⟨d1, b1'⟩, ← hexS_at ⟨d2, b2⟩, ← hexS_at ⟨d3, b3⟩]
    obtain ⟨v6, w6, hr6, hrow6, hkb6⟩ := app_b3 (W := wr.drew) [hexS[d0]'b0, hexS[d1]'b1', hexS[d2]'b2, hexS[d3]'b3] (show BRow wr.drew w.heap.size _ _ from hrow) hb.size (by simp) (by rw [List.length_append, g4_len, List.length_take]; simp; omega) wr.heap.size rfl
    have HR6 := hide hr6
    have HFIN := hide (show k + 1 ≤ n ∧ Below w.heap.size w w6 ∧ BRow w6 w.heap.size v6 ([60] ++ (zs.take (k + 1)).flatMap g4) from ⟨by omega, (bdr hb).trans hkb6.below, by rw [htk, List.flatMap_append]; simp only [List.flatMap_cons, List.flatMap_nil, List.append_nil]; rw [eg, ← List.append_assoc]; exact hrow6⟩)
    have q0 : bits BinOp.and .i64 ((G : Int) / 4096) 15 = (d0 : Int) := by rw [and15]; omega
    have q1 : bits BinOp.and .i64 ((G : Int) / 256) 15 = (d1 : Int) := by rw [and15]; omega
    have q2 : bits BinOp.and .i64 ((G : Int) / 16) 15 = (d2 : Int) := by rw [and15]; omega
    have q3 : bits BinOp.and .i64 (G : Int) 15 = (d3 : Int) := by rw [and15]; omega
    have g0 : (d0 : Int) < 16 := by omega
    have g1 : (d1 : Int) < 16 := by omega
    have g2 : (d2 : Int) < 16 := by omega
    have g3 : (d3 : Int) < 16 := by omega
    have j0 : (0 : Int) ≤ (d0 : Int) := by omega
    have j1 : (0 : Int) ≤ (d1 : Int) := by omega
    have j2 : (0 : Int) ≤ (d2 : Int) := by omega
    have j3 : (0 : Int) ≤ (d3 : Int) := by omega
    clear hr6 hrow6 hkb6 hrow hb hcell1 hzk htk eg e0 e1 e2 e3 hl
    go_wp2_with fail
    go_region_held3 (fun _ => True) (first | trivial | go_keep) ((first | (refine step_append_run _ (by rfl) _ _ _ _ (by rfl) _ _ (by rfl) (by rfl) _ _ HR6.out ?_)))
    all_goals
      go_wp2_with fail
      go_roundw
      case rel => exact ⟨k + 1, by go_num, HFIN⟩
      case measure => simp [intOf]; omega
end Go.Proofs.YthhhepbflggojaaDoor.E15
