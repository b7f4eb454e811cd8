/-
  What utf.Encode answers.
-/
import Derived.Test.YtncmkiejamkklaaDoorU4Cls
import Derived.Test.YtncmkiejamkklaaDoorU4Row
import Derived.Test.YtncmkiejamkklaaDoorShelf
namespace Go.Proofs.YtncmkiejamkklaaDoor
open Go.RowKit

/- the bytes of a list, or nothing, and the error's number -/
def wrS (enc : Nat → List UInt8) (pre : List UInt8) (zs : List Int) : List UInt8 := if zs.all isP then pre ++ encs enc zs else []
def wrE (zs : List Int) : Nat := if zs.all isP then 0 else 40
theorem all_bad (zs : List Int) (k : Nat) (h : k < zs.length) (hp : isP (zs.getD k 0) = false) : zs.all isP = false := by
  rw [List.all_eq_false]
  refine ⟨zs.getD k 0, ?_, by rw [hp]; decide⟩
  rw [List.getD_eq_getElem?_getD, List.getElem?_eq_getElem h]
  exact List.getElem_mem h
theorem take_snoc (zs : List Int) (k : Nat) (h : k < zs.length) : zs.take (k + 1) = zs.take k ++ [zs.getD k 0] := by
  rw [List.take_add_one, List.getElem?_eq_getElem h, List.getD_eq_getElem?_getD, List.getElem?_eq_getElem h]
  rfl
theorem runeCells_e8 (c : Nat) (h : isP (c : Int) = true) : Lib.runeCells (c : Int) = (e8 c).map bcell := by
  have hp := isP_t.1 h
  have bb : ∀ (n : Nat) (x : Int), n < 256 → x = (n : Int) → Value.int .u8 x = bcell (bt n) := by
    intro n x hn hx
    unfold bcell
    rw [bt_nat n hn, hx]
  unfold Lib.runeCells
  by_cases c1 : c < 128
  · rw [Lib.encodeRuneZ_one (by omega) (by omega), u8_1 c1]
    simp only [List.map_cons, List.map_nil]
    rw [bb c _ (by omega) rfl]
  by_cases c2 : c < 2048
  · rw [Lib.encodeRuneZ_two (by omega) (by omega), u8_2 (by omega) c2]
    simp only [List.map_cons, List.map_nil]
    rw [bb (192 + c / 64) _ (by omega) (by omega), bb (128 + c % 64) _ (by omega) (by omega)]
  by_cases c3 : c < 65536
  · rw [Lib.encodeRuneZ_three (by omega), u8_3 (by omega) c3]
    simp only [List.map_cons, List.map_nil]
    rw [bb (224 + c / 4096) _ (by omega) (by omega), bb (128 + c / 64 % 64) _ (by omega) (by omega), bb (128 + c % 64) _ (by omega) (by omega)]
  · rw [Lib.encodeRuneZ_four (by omega) (by omega), u8_4 (by omega)]
    simp only [List.map_cons, List.map_nil]
    rw [bb (240 + c / 262144) _ (by omega) (by omega), bb (128 + c / 4096 % 64) _ (by omega) (by omega), bb (128 + c / 64 % 64) _ (by omega) (by omega), bb (128 + c % 64) _ (by omega) (by omega)]

set_option maxRecDepth 100000 in
set_option maxHeartbeats 1000000 in
theorem encode_core (a : Option Addr) (len cap : Nat) (zs : List Int) (w : World) (hl : zs.length = len) (h4 : len ≤ 65536) (hL : Lst w a zs) (S : List UInt8) (E : Nat) (hS : wrS e8 [] zs = S) (hE : wrE zs = E) :
    Calls Tryd.prog 14 #[.slice a len cap] w fun e w' => e = .returned (.tuple #[.string ⟨S.toArray⟩, .int .i64 E]) ∧ Below w.heap.size w w' := by
  have HL := hide hL
  have Hl := hide hl
  have H4 := hide h4
  have h5 : (len : Int) ≤ 65536 := by omega
  have HS := hide hS
  have HE := hide hE
  clear hL hl hS hE h4
  go_enter Tryd.func14, Tryd.ntmps14
  go_wp2_with fail
  go_loopw [4, 9] (fun vt vi wr => ∃ k : Nat, vi = .int .i64 k ∧ Hid (k ≤ len ∧ (zs.take k).all isP = true ∧ BRow wr w.heap.size vt (encs e8 (zs.take k)) ∧ Below w.heap.size w wr)) (fun _ vi _ => len - (intOf vi).toNat)
  case atStart => exact ⟨0, rfl, hide ⟨by omega, by simp, by simpa [encs] using BRow.nil _ _, Below.refl _ _⟩⟩
  case round =>
    obtain ⟨k, rfl, HK⟩ := hrel
    obtain ⟨k1, k2, k3, k4⟩ := HK.out
    clear HK
    by_cases hlt : k < len
    · have hlt' : (k : Int) < (len : Int) := by omega
      have hl := Hl.out
      rcases HL.out with hz | ⟨b, off, rfl, hb, hcell⟩
      · rw [hz] at hl; simp at hl; omega
      have hc : wr.cell? ⟨b, off + k, none⟩ = some (.int .i64 (zs.getD k 0)) := by
        rw [k4.cell (p := ⟨b, off + k, none⟩) hb]; exact hcell k (by omega)
      have hbad := all_bad zs k (by omega)
      have htk := take_snoc zs k (by omega)
      have hel := (encs_len code8 (zs.take k)).2
      rw [List.length_take] at hel
      generalize zs.getD k 0 = z at *
      have K3 := hide k3
      have K4 := hide k4
      have K2 := hide k2
      cases hp : isP z
      · have e1 := hbad hp
        obtain rfl : S = [] := by rw [← HS.out]; unfold wrS; rw [e1]; rfl
        obtain rfl : E = 40 := by rw [← HE.out]; unfold wrE; rw [e1]; rfl
        clear hbad htk hel k3 k4 k2 hcell hl HS HE e1
        go_wp2_with (go_at_call 30; refine (point_any _ _).mono ?_; rintro e w1 ⟨rfl, rfl⟩)
        go_ret2
        exact ⟨rfl, K4.out⟩
      · have hz := isP_t.1 hp
        obtain ⟨c, rfl⟩ : ∃ c : Nat, z = (c : Int) := ⟨z.toNat, by omega⟩
        have c1 : (c : Int) ≤ 1114111 := by omega
        have HT := hide (show encs e8 (zs.take (k + 1)) = encs e8 (zs.take k) ++ e8 c by rw [htk, encs_snoc]; rfl)
        have HA := hide (show (zs.take (k + 1)).all isP = true by rw [htk, List.all_append, K2.out]; simp [hp])
        have ca := Any.utf8_AppendRune_plain lays242 (by kernel_rfl) w.heap.size _ _ _ (c : Int) (by omega) (by omega) wr k3 (by have := H4.out; omega) k4.size
        rw [runeCells_e8 c hp] at ca
        have CA := hide ca
        clear ca hbad htk hel k3 k4 k2 hcell hl hz
        go_wp2_with (first | (go_at_call 30; refine (point_any _ _).mono ?_; rintro e w1 ⟨rfl, rfl⟩) | (go_at_call 31; refine CA.out.mono ?_; rintro e w2 ⟨v2, rfl, hown2, o, hgrow2⟩))
        have HB2 := hide (show Below w.heap.size w w2 from (K4.out.alloc K4.out.size o).grown hgrow2 (by simp; have := K4.out.size; omega) (fun k hk => (World.ownsRow.lt K3.out k hk).1))
        have HO2 := hide (show BRow w2 w.heap.size v2 (encs e8 (zs.take (k + 1))) by
          rw [HT.out]
          unfold BRow
          rw [List.length_map] at hown2
          rw [List.map_append, List.length_append]
          exact hown2)
        clear hown2 hgrow2
        go_wp2
        go_roundw
        case rel => exact ⟨k + 1, by go_num, hide ⟨by omega, HA.out, HO2.out, HB2.out⟩⟩
        case measure => simp [intOf]; omega
    · have hlt' : ¬ (k : Int) < (len : Int) := by omega
      rw [List.take_of_length_le (by have := Hl.out; omega)] at k2 k3
      have hcv := k3.text
      obtain rfl : encs e8 zs = S := by rw [← HS.out]; unfold wrS; rw [k2]; rfl
      obtain rfl : E = 0 := by rw [← HE.out]; unfold wrE; rw [k2]; rfl
      have K4 := hide k4
      clear k2 k3 k4
      go_wp2
      go_ret2
      exact ⟨rfl, K4.out⟩
end Go.Proofs.YtncmkiejamkklaaDoor
