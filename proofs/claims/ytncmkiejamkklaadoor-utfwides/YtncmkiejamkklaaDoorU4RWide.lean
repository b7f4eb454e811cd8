/-
  What the reference's Wide (chapter 4) answers.
-/
import Derived.Test.YtncmkiejamkklaaDoorU4REnc
namespace Go.Proofs.YtncmkiejamkklaaDoor
open Go.RowKit

set_option maxRecDepth 100000 in
set_option maxHeartbeats 1000000 in
theorem rwide_core (a : Option Addr) (len cap : Nat) (zs : List Int) (w : World) (hl : zs.length = len) (h4 : len ≤ 65536) (hL : Lst w a zs) (S : List UInt8) (E : Nat) (hS : wrS e16 [254, 255] zs = S) (hE : wrE zs = E) :
    Calls Tryd.prog 23 #[.slice a len cap] w fun e w' => e = .returned (.tuple #[.string ⟨S.toArray⟩, .int .i64 E]) ∧ Below w.heap.size w w' := by
  have HL := hide hL
  have Hl := hide hl
  have H4 := hide h4
  have h5 : (len : Int) ≤ 65536 := by omega
  have HS := hide hS
  have HE := hide hE
  obtain ⟨i0, hi, hz0, hz1, hz2⟩ := info_parts info_u8
  have HI := hide hi
  have HI0 := hide hz0
  have HI1 := hide hz1
  have HI2 := hide hz2
  have HM := hide (show BRow (w.alloc (.cells #[.int .u8 254, .int .u8 255] 5)) w.heap.size (.slice (some ⟨w.heap.size, 0, none⟩) 2 2) [254, 255] from World.ownsRow_lit w #[.int .u8 254, .int .u8 255] 2 (Nat.le_refl _) (by unfold maxLen; omega) (by simp))
  have HB0 := hide (show Below w.heap.size w (w.alloc (.cells #[.int .u8 254, .int .u8 255] 5)) from (Below.refl _ _).alloc (Nat.le_refl _) _)
  clear hi hz0 hz1 hz2 hL hl hS hE h4
  go_enter Tryd.func23, Tryd.ntmps23
  go_wp2_with fail
  go_loopw [4, 5] (fun vt vi wr => ∃ k : Nat, vi = .int .i64 k ∧ Hid (k ≤ len ∧ (zs.take k).all isP = true ∧ BRow wr w.heap.size vt ([254, 255] ++ encs e16 (zs.take k)) ∧ Below w.heap.size w wr)) (fun _ vi _ => len - (intOf vi).toNat)
  case atStart => exact ⟨0, rfl, hide ⟨by omega, by simp, by rw [show ([254, 255] ++ encs e16 (zs.take 0) : List UInt8) = [254, 255] by simp [encs]]; exact HM.out, HB0.out⟩⟩
  case round =>
    obtain ⟨k, rfl, HK⟩ := hrel
    obtain ⟨k1, k2, k3, k4⟩ := HK.out
    clear HK
    by_cases hlt : k < len
    · have hlt' : (k : Int) < (len : Int) := by omega
      have hl := Hl.out
      rcases HL.out with hz | ⟨b, off, rfl, hb, hcell⟩
      · rw [hz] at hl; simp at hl; omega
      have hc : wr.cell? ⟨b, off + k, none⟩ = some (.int .i64 (zs.getD k 0)) := by
        rw [k4.cell (p := ⟨b, off + k, none⟩) hb]; exact hcell k (by omega)
      have hbad := all_bad zs k (by omega)
      have htk := take_snoc zs k (by omega)
      have hel := (encs_len code16 (zs.take k)).2
      rw [List.length_take] at hel
      generalize zs.getD k 0 = z at *
      have K3 := hide k3
      have K4 := hide k4
      have K2 := hide k2
      cases hp : isP z
      · have e1 := hbad hp
        obtain rfl : S = [] := by rw [← HS.out]; unfold wrS; rw [e1]; rfl
        obtain rfl : E = 40 := by rw [← HE.out]; unfold wrE; rw [e1]; rfl
        clear hbad htk hel k3 k4 k2 hcell hl HS HE e1
        go_wp2_with (go_at_call 28; refine (is_any _ _).mono ?_; rintro e w1 ⟨rfl, rfl⟩)
        go_ret2
        exact ⟨rfl, K4.out⟩
      · have hz := isP_t.1 hp
        obtain ⟨c, rfl⟩ : ∃ c : Nat, z = (c : Int) := ⟨z.toNat, by omega⟩
        have c1 : (c : Int) ≤ 1114111 := by omega
        have HT := hide (show [254, 255] ++ encs e16 (zs.take (k + 1)) = ([254, 255] ++ encs e16 (zs.take k)) ++ e16 c by rw [htk, encs_snoc, List.append_assoc]; rfl)
        have HA := hide (show (zs.take (k + 1)).all isP = true by rw [htk, List.all_append, K2.out]; simp [hp])
        have CO := hide (fun w => units_any c w (by omega))
        have HEL := hide (show ([254, 255] ++ encs e16 (zs.take k)).length + (⟨(e16 c).toArray⟩ : ByteArray).size ≤ 300000 by rw [size_mk', List.length_append]; have := (code16.len c).2; have := H4.out; simp; omega)
        clear hbad htk hel k3 k4 k2 hcell hl hz
        go_wp2_with (first
          | (go_at_call 28; refine (is_any _ _).mono ?_; rintro e w1 ⟨rfl, rfl⟩)
          | (go_at_call 35; refine (CO.out _).mono ?_; rintro e w2 ⟨rfl, hb2⟩)
          | (at_builtin; refine Lib.wpList_append_own_string _ rfl _ _ 52 9 rfl w.heap.size 5 i0 Tryd.underlying52 Tryd.underlying9 HI.out HI0.out HI1.out HI2.out _ _ _ rfl (own_below K3.out K4.out hb2) ⟨(e16 c).toArray⟩ rfl ?d1 ?d2 ?d3 ?_))
        case d1 => have := HEL.out; unfold maxLen; omega
        case d2 => have := HEL.out; omega
        case d3 => exact Nat.le_trans K4.out.size hb2.size
        intro v3 w3 hown3 hgrow3 _
        have HB2 := hide (K4.out.trans (hb2.mono K4.out.size))
        have HB3 := hide (show Below w.heap.size w w3 from HB2.out.grown hgrow3 HB2.out.size (fun k hk => (World.ownsRow.lt K3.out k hk).1))
        have HO3 := hide (show BRow w3 w.heap.size v3 ([254, 255] ++ encs e16 (zs.take (k + 1))) by
          rw [HT.out]
          unfold BRow
          rw [strCells_bytes] at hown3
          rw [List.map_append, List.length_append]
          exact hown3)
        clear hown3 hgrow3 hb2
        go_wp2
        go_roundw
        case rel => exact ⟨k + 1, by go_num, hide ⟨by omega, HA.out, HO3.out, HB3.out⟩⟩
        case measure => simp [intOf]; omega
    · have hlt' : ¬ (k : Int) < (len : Int) := by omega
      rw [List.take_of_length_le (by have := Hl.out; omega)] at k2 k3
      have hcv := k3.text
      obtain rfl : [254, 255] ++ encs e16 zs = S := by rw [← HS.out]; unfold wrS; rw [k2]; rfl
      obtain rfl : E = 0 := by rw [← HE.out]; unfold wrE; rw [k2]; rfl
      have K4 := hide k4
      clear k2 k3 k4
      go_wp2
      go_ret2
      exact ⟨rfl, K4.out⟩
end Go.Proofs.YtncmkiejamkklaaDoor
