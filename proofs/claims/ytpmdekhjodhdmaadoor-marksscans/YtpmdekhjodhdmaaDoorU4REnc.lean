/-
  What the reference's Encode, Units and Wide (chapter 4) answer.
-/
import Derived.Test.YtpmdekhjodhdmaaDoorU4ROne
import Derived.Test.YtpmdekhjodhdmaaDoorU4Enc
import Derived.Lib.AppendStr
import Derived.Laws.Concat
namespace Go.Proofs.YtpmdekhjodhdmaaDoor
open Go.RowKit

theorem strCells_bytes (ys : List UInt8) : Lib.strCells ⟨ys.toArray⟩ = ys.map bcell := by
  simp [Lib.strCells, bcell]
theorem size_mk' (ys : List UInt8) : (⟨ys.toArray⟩ : ByteArray).size = ys.length := by
  rw [Lib.size_eq]

set_option maxRecDepth 100000 in
set_option maxHeartbeats 1000000 in
theorem rencode_core (a : Option Addr) (len cap : Nat) (zs : List Int) (w : World) (hl : zs.length = len) (h4 : len ≤ 65536) (hL : Lst w a zs) (S : List UInt8) (E : Nat) (hS : wrS e8 [] zs = S) (hE : wrE zs = E) :
    Calls Tryd.prog 35 #[.slice a len cap] w fun e w' => e = .returned (.tuple #[.string ⟨S.toArray⟩, .int .i64 E]) ∧ Below w.heap.size w w' := by
  have HL := hide hL
  have Hl := hide hl
  have H4 := hide h4
  have h5 : (len : Int) ≤ 65536 := by omega
  have HS := hide hS
  have HE := hide hE
  obtain ⟨i0, hi, hz0, hz1, hz2⟩ := info_parts info_u8
  have HI := hide hi
  have HI0 := hide hz0
  have HI1 := hide hz1
  have HI2 := hide hz2
  clear hi hz0 hz1 hz2 hL hl hS hE h4
  go_enter Tryd.func35, Tryd.ntmps35
  go_wp2_with fail
  go_loopw [4, 5] (fun vt vi wr => ∃ k : Nat, vi = .int .i64 k ∧ Hid (k ≤ len ∧ (zs.take k).all isP = true ∧ BRow wr w.heap.size vt (encs e8 (zs.take k)) ∧ Below w.heap.size w wr)) (fun _ vi _ => len - (intOf vi).toNat)
  case atStart => exact ⟨0, rfl, hide ⟨by omega, by simp, by simpa [encs] using BRow.nil _ _, Below.refl _ _⟩⟩
  case round =>
    obtain ⟨k, rfl, HK⟩ := hrel
    obtain ⟨k1, k2, k3, k4⟩ := HK.out
    clear HK
    by_cases hlt : k < len
    · have hlt' : (k : Int) < (len : Int) := by omega
      have hl := Hl.out
      rcases HL.out with hz | ⟨b, off, rfl, hb, hcell⟩
      · rw [hz] at hl; simp at hl; omega
      have hc : wr.cell? ⟨b, off + k, none⟩ = some (.int .i64 (zs.getD k 0)) := by
        rw [k4.cell (p := ⟨b, off + k, none⟩) hb]; exact hcell k (by omega)
      have hbad := all_bad zs k (by omega)
      have htk := take_snoc zs k (by omega)
      have hel := (encs_len code8 (zs.take k)).2
      rw [List.length_take] at hel
      generalize zs.getD k 0 = z at *
      have K3 := hide k3
      have K4 := hide k4
      have K2 := hide k2
      cases hp : isP z
      · have e1 := hbad hp
        obtain rfl : S = [] := by rw [← HS.out]; unfold wrS; rw [e1]; rfl
        obtain rfl : E = 40 := by rw [← HE.out]; unfold wrE; rw [e1]; rfl
        clear hbad htk hel k3 k4 k2 hcell hl HS HE e1
        go_wp2_with (go_at_call 37; refine (is_any _ _).mono ?_; rintro e w1 ⟨rfl, rfl⟩)
        go_ret2
        exact ⟨rfl, K4.out⟩
      · have hz := isP_t.1 hp
        obtain ⟨c, rfl⟩ : ∃ c : Nat, z = (c : Int) := ⟨z.toNat, by omega⟩
        have c1 : (c : Int) ≤ 1114111 := by omega
        have HT := hide (show encs e8 (zs.take (k + 1)) = encs e8 (zs.take k) ++ e8 c by rw [htk, encs_snoc]; rfl)
        have HA := hide (show (zs.take (k + 1)).all isP = true by rw [htk, List.all_append, K2.out]; simp [hp])
        have CO := hide (fun w => one_any c w (by omega))
        have HEL := hide (show (encs e8 (zs.take k)).length + (⟨(e8 c).toArray⟩ : ByteArray).size ≤ 300000 by rw [size_mk']; have := (code8.len c).2; have := H4.out; omega)
        clear hbad htk hel k3 k4 k2 hcell hl hz
        go_wp2_with (first
          | (go_at_call 37; refine (is_any _ _).mono ?_; rintro e w1 ⟨rfl, rfl⟩)
          | (go_at_call 38; refine (CO.out _).mono ?_; rintro e w2 ⟨rfl, hb2⟩)
          | (at_builtin; refine Lib.wpList_append_own_string _ rfl _ _ 56 9 rfl w.heap.size 5 i0 Tryd.underlying56 Tryd.underlying9 HI.out HI0.out HI1.out HI2.out _ _ _ rfl (own_below K3.out K4.out hb2) ⟨(e8 c).toArray⟩ rfl ?d1 ?d2 ?d3 ?_))
        case d1 => have := HEL.out; unfold maxLen; omega
        case d2 => have := HEL.out; omega
        case d3 => exact Nat.le_trans K4.out.size hb2.size
        intro v3 w3 hown3 hgrow3 _
        have HB2 := hide (K4.out.trans (hb2.mono K4.out.size))
        have HB3 := hide (show Below w.heap.size w w3 from HB2.out.grown hgrow3 HB2.out.size (fun k hk => (World.ownsRow.lt K3.out k hk).1))
        have HO3 := hide (show BRow w3 w.heap.size v3 (encs e8 (zs.take (k + 1))) by
          rw [HT.out]
          unfold BRow
          rw [strCells_bytes] at hown3
          rw [List.map_append, List.length_append]
          exact hown3)
        clear hown3 hgrow3 hb2
        go_wp2
        go_roundw
        case rel => exact ⟨k + 1, by go_num, hide ⟨by omega, HA.out, HO3.out, HB3.out⟩⟩
        case measure => simp [intOf]; omega
    · have hlt' : ¬ (k : Int) < (len : Int) := by omega
      rw [List.take_of_length_le (by have := Hl.out; omega)] at k2 k3
      have hcv := k3.text
      obtain rfl : encs e8 zs = S := by rw [← HS.out]; unfold wrS; rw [k2]; rfl
      obtain rfl : E = 0 := by rw [← HE.out]; unfold wrE; rw [k2]; rfl
      have K4 := hide k4
      clear k2 k3 k4
      go_wp2
      go_ret2
      exact ⟨rfl, K4.out⟩
end Go.Proofs.YtpmdekhjodhdmaaDoor
