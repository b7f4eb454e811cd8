/-
  What the reference's Sum answers of at most 4096 ints.
-/
import Derived.Test.YtnabfcpapjmgfaaSums
import Derived.Test.YtnabfcpapjmgfaaRBase
namespace Go.Proofs.Ytnabfcpapjmgfaa
open Go.RowKit

set_option maxHeartbeats 1000000 in
theorem rsum_core (a : Option Addr) (len cap : Nat) (zs : List Int) (w : World) (hl : zs.length = len) (h4 : len ≤ 4096) (hL : Lst w a zs) (V : Int) (B : Bool) (hV : V = smV zs) (hB : B = smB zs) :
    Calls Try.prog 24 #[.slice a len cap] w fun e w' => e = .returned (.tuple #[.int .i64 V, .bool B]) ∧ w' = w := by
  have HV := hide hV
  have HB := hide hB
  clear hV hB
  have HL := hide hL
  have Hl := hide hl
  have h5 : (len : Int) ≤ 4096 := by omega
  clear hL hl
  go_enter Try.func24, Try.ntmps24
  go_wp2_with fail
  go_loop [4, 5] (fun vs vi => ∃ (k : Nat) (S : Int), vi = .int .i64 k ∧ vs = .int .i64 S ∧ Hid (k ≤ len ∧ S = total (zs.take k) ∧ allIn (zs.take k) = true)) (fun _ vi => len - (intOf vi).toNat)
  case atStart => exact ⟨0, 0, rfl, rfl, hide ⟨by omega, rfl, rfl⟩⟩
  case round =>
    obtain ⟨k, S, rfl, rfl, HR⟩ := hrel
    obtain ⟨k1, k2, k3⟩ := HR.out
    clear HR
    have hbd := total_bd (zs.take k) k3
    rw [← k2] at hbd
    have hbd2 : -4503599627370496 ≤ S ∧ S ≤ 4503599627370496 := by
      have : (zs.take k).length ≤ 4096 := by rw [List.length_take]; omega
      omega
    by_cases hlt : k < len
    · have hlt' : (k : Int) < (len : Int) := by omega
      have hl := Hl.out
      rcases HL.out with hz | ⟨b, off, rfl, hb, hcell⟩
      · rw [hz] at hl; simp at hl; omega
      have hc := hcell k (by omega)
      have hts := take_snoc zs k (by omega)
      have haf := allIn_take_false zs k (by omega)
      generalize hzk : zs.getD k 0 = z at *
      cases hz : inB z
      · have ha := haf hz
        have e1 : V = 0 := by rw [HV.out]; unfold smV; rw [ha]; rfl
        have e2 : B = false := by rw [HB.out]; unfold smB; rw [ha]; rfl
        clear HV HB
        subst e1 e2
        clear k2 k3 hts haf hzk hl hcell ha hbd
        go_wp2_with (go_at_call 14; refine (rin_any _ _).mono ?_; rintro e w' ⟨rfl, rfl⟩)
        go_ret2
        exact ⟨rfl, rfl⟩
      · have bz := inB_bd hz
        have K := hide (show total (zs.take (k + 1)) = total (zs.take k) + z ∧ allIn (zs.take (k + 1)) = true by rw [hts, total_snoc, allIn_snoc, k3, hz]; exact ⟨rfl, rfl⟩)
        have K2 := hide k2
        clear k2 k3 hts haf hzk hl hcell hbd
        go_wp2_with (go_at_call 14; refine (rin_any _ _).mono ?_; rintro e w' ⟨rfl, rfl⟩)
        go_round
        case rel => exact ⟨k + 1, S + z, by go_num, rfl, hide ⟨by omega, by have h1 := K.out.1; have h2 := K2.out; omega, K.out.2⟩⟩
        case measure => simp [intOf]; omega
    · have hlt' : ¬ (k : Int) < (len : Int) := by omega
      have hk : zs.take k = zs := List.take_of_length_le (by have := Hl.out; omega)
      rw [hk] at k2 k3
      have e1 : V = tolV S := by rw [HV.out, k2]; unfold smV; rw [k3]; rfl
      have e2 : B = inB S := by rw [HB.out, k2]; unfold smB; rw [k3]; rfl
      clear HV HB k1 k2 k3 hk HL Hl hbd
      subst e1 e2
      go_wp2_with (go_at_call 29; refine (told_any _ _).mono ?_; rintro e w' ⟨rfl, rfl⟩)
      go_ret2
      exact ⟨rfl, rfl⟩
theorem rsum_any (a : Option Addr) (len cap : Nat) (zs : List Int) (w : World) (hl : zs.length = len) (h4 : len ≤ 4096) (hL : Lst w a zs) :
    Calls Try.prog 24 #[.slice a len cap] w fun e w' => e = .returned (.tuple #[.int .i64 (smV zs), .bool (smB zs)]) ∧ w' = w :=
  rsum_core a len cap zs w hl h4 hL _ _ rfl rfl
end Go.Proofs.Ytnabfcpapjmgfaa
