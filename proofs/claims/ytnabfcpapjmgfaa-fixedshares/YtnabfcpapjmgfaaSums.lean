/-
  What fixed.Sum answers of at most 4096 ints, and colophonkeep's Same of a list and its like.
-/
import Derived.Test.YtnabfcpapjmgfaaKeep
import Derived.Test.YtnabfcpapjmgfaaScale
import Derived.Deep.QuietTactic
import Derived.BigQuiet
namespace Go.Proofs.Ytnabfcpapjmgfaa
open Go.RowKit

/- each is in; the sum -/
def allIn : List Int → Bool
  | [] => true
  | z :: zs => inB z && allIn zs
def total : List Int → Int
  | [] => 0
  | z :: zs => z + total zs
def smB (zs : List Int) : Bool := allIn zs && inB (total zs)
def smV (zs : List Int) : Int := if allIn zs then tolV (total zs) else 0

theorem allIn_snoc (zs : List Int) (z : Int) : allIn (zs ++ [z]) = (allIn zs && inB z) := by
  induction zs with
  | nil => simp [allIn]
  | cons y ys ih => simp [allIn, ih, Bool.and_assoc]
theorem total_snoc (zs : List Int) (z : Int) : total (zs ++ [z]) = total zs + z := by
  induction zs with
  | nil => simp [total]
  | cons y ys ih => simp [total, ih]; omega
theorem take_snoc (zs : List Int) (k : Nat) (h : k < zs.length) : zs.take (k + 1) = zs.take k ++ [zs.getD k 0] := by
  rw [List.take_succ_eq_append_getElem h, List.getD_eq_getElem?_getD, List.getElem?_eq_getElem h]; rfl
theorem allIn_take_false (zs : List Int) (k : Nat) (h : k < zs.length) (hz : inB (zs.getD k 0) = false) : allIn zs = false := by
  have e := List.take_append_drop (k + 1) zs
  have : ∀ xs ys : List Int, allIn xs = false → allIn (xs ++ ys) = false := by
    intro xs ys hx
    induction xs with
    | nil => simp [allIn] at hx
    | cons x xs ih =>
      simp only [allIn, List.cons_append, Bool.and_eq_false_iff] at hx ⊢
      rcases hx with hx | hx
      · exact Or.inl hx
      · exact Or.inr (ih hx)
  rw [← e]
  refine this _ _ ?_
  rw [take_snoc zs k h, allIn_snoc, hz]
  simp
theorem total_bd (zs : List Int) (h : allIn zs = true) : -1099511627776 * zs.length ≤ total zs ∧ total zs ≤ 1099511627776 * zs.length := by
  induction zs with
  | nil => simp [total]
  | cons z zs ih =>
    simp only [allIn, Bool.and_eq_true] at h
    have h1 := ih h.2
    have h2 := inB_bd h.1
    simp only [total, List.length_cons]
    omega

theorem i64_and65535 (n : Int) : bits .and .i64 n 65535 = n % 65536 := by
  have m : (BitVec.ofInt 64 n &&& BitVec.ofInt 64 65535).toNat = (n % 18446744073709551616).toNat % 65536 := by
    have h := Nat.and_two_pow_sub_one_eq_mod (n % 18446744073709551616).toNat 16
    rw [BitVec.toNat_and, BitVec.toNat_ofInt]
    exact h
  have b : bits .and .i64 n 65535 = IntKind.i64.wrap ((BitVec.ofInt 64 n &&& BitVec.ofInt 64 65535).toNat : Nat) := rfl
  rw [b, m, IntKind.wrap_i64]
  omega

/- the end of Sum: whole points and what is left of them -/
theorem sum_end (P R T : Int) (hT : 65536 * P + R = T) (p1 : -68719476736 ≤ P) (p2 : P ≤ 68719476736) (r1 : 0 ≤ R) (r2 : R ≤ 268431360) :
    (tmB (P + R / 65536) 65536 = false ∧ inB T = false ∧ tolV T = 0) ∨
    (tmB (P + R / 65536) 65536 = true ∧ tmV (P + R / 65536) 65536 + R % 65536 = T ∧ -1099511627776 ≤ tmV (P + R / 65536) 65536 ∧ tmV (P + R / 65536) 65536 ≤ 1099511627776) := by
  have hin : inB (P + R / 65536) = true := inB_t (by omega) (by omega)
  have e1 : tmB (P + R / 65536) 65536 = inB ((P + R / 65536) * 65536) := by unfold tmB; rw [hin, (fl_one _ _).1]; rfl
  have e2 : tmV (P + R / 65536) 65536 = tolV ((P + R / 65536) * 65536) := by unfold tmV; rw [hin, (fl_one _ _).2]; rfl
  by_cases h : -1099511627776 ≤ (P + R / 65536) * 65536 ∧ (P + R / 65536) * 65536 ≤ 1099511627776
  · refine Or.inr ?_
    have hb := inB_t h.1 h.2
    rw [e1, e2, tolV_t hb]
    exact ⟨hb, by omega, h.1, h.2⟩
  · refine Or.inl ?_
    have hb := inB_f h
    have hT2 : inB T = false := inB_f (by omega)
    rw [e1]
    exact ⟨hb, hT2, tolV_f hT2⟩

set_option maxHeartbeats 1000000 in
theorem sum_core (a : Option Addr) (len cap : Nat) (zs : List Int) (w : World) (hl : zs.length = len) (h4 : len ≤ 4096) (hL : Lst w a zs) (V : Int) (B : Bool) (hV : V = smV zs) (hB : B = smB zs) :
    Calls Try.prog 23 #[.slice a len cap] w fun e w' => e = .returned (.tuple #[.int .i64 V, .bool B]) ∧ ∃ n, w' = w.drewN n := by
  have HV := hide hV
  have HB := hide hB
  clear hV hB
  have HL := hide hL
  have Hl := hide hl
  have h5 : (len : Int) ≤ 4096 := by omega
  clear hL hl
  go_enter Try.func23, Try.ntmps23
  go_wp2_with fail
  go_loop [4, 5, 7, 12] (fun vp vr _ vi => ∃ (k : Nat) (P R : Int), vi = .int .i64 k ∧ vp = .int .i64 P ∧ vr = .int .i64 R ∧ Hid (k ≤ len ∧ 65536 * P + R = total (zs.take k) ∧ allIn (zs.take k) = true ∧ -16777216 * k ≤ P ∧ P ≤ 16777216 * k ∧ 0 ≤ R ∧ R ≤ 65535 * k)) (fun _ _ _ vi => len - (intOf vi).toNat)
  case atStart => exact ⟨0, 0, 0, rfl, rfl, rfl, hide ⟨by omega, rfl, rfl, by omega, by omega, by omega, by omega⟩⟩
  case round =>
    obtain ⟨k, P, R, rfl, rfl, rfl, HR⟩ := hrel
    obtain ⟨k1, k2, k3, p1, p2, r1, r2⟩ := HR.out
    clear HR
    by_cases hlt : k < len
    · have hlt' : (k : Int) < (len : Int) := by omega
      have hl := Hl.out
      rcases HL.out with hz | ⟨b, off, rfl, hb, hcell⟩
      · rw [hz] at hl; simp at hl; omega
      have hc := hcell k (by omega)
      have hts := take_snoc zs k (by omega)
      have haf := allIn_take_false zs k (by omega)
      generalize hzk : zs.getD k 0 = z at *
      cases hz : inB z
      · have ha := haf hz
        have e1 : V = 0 := by rw [HV.out]; unfold smV; rw [ha]; rfl
        have e2 : B = false := by rw [HB.out]; unfold smB; rw [ha]; rfl
        clear HV HB
        subst e1 e2
        clear k2 k3 p1 p2 r1 r2 hts haf hzk hl hcell ha
        go_wp2_with (go_at_call 13; refine (in_any _ _).mono ?_; rintro e w' ⟨rfl, rfl⟩)
        go_ret2
        exact ⟨rfl, 0, rfl⟩
      · have bz := inB_bd hz
        have em := i64_and65535 z
        have K := hide (show total (zs.take (k + 1)) = total (zs.take k) + z ∧ allIn (zs.take (k + 1)) = true by rw [hts, total_snoc, allIn_snoc, k3, hz]; exact ⟨rfl, rfl⟩)
        have K2 := hide k2
        clear k2 k3 hts haf hzk hl hcell
        go_wp2_with (go_at_call 13; refine (in_any _ _).mono ?_; rintro e w' ⟨rfl, rfl⟩)
        go_round
        case rel => exact ⟨k + 1, P + z / 65536, R + z % 65536, by go_num, by go_num, by go_num, hide ⟨by omega, by have h1 := K.out.1; have h2 := K2.out; omega, K.out.2, by omega, by omega, by omega, by omega⟩⟩
        case measure => simp [intOf]; omega
    · have hlt' : ¬ (k : Int) < (len : Int) := by omega
      have hk : zs.take k = zs := List.take_of_length_le (by have := Hl.out; omega)
      rw [hk] at k2 k3
      have em := i64_and65535 R
      have e1 : V = tolV (total zs) := by rw [HV.out]; unfold smV; rw [k3]; rfl
      have e2 : B = inB (total zs) := by rw [HB.out]; unfold smB; rw [k3]; rfl
      clear HV HB
      have hend := sum_end P R (total zs) k2 (by omega) (by omega) r1 (by omega)
      generalize total zs = T at *
      have p3 : -68719476736 ≤ P ∧ P ≤ 68719476736 := by omega
      have r3 : 0 ≤ R ∧ R ≤ 268431360 := by omega
      have C := hide (fun w => times_any (P + R / 65536) 65536 (by omega) (by omega) w)
      generalize tmV (P + R / 65536) 65536 = v at *
      generalize tmB (P + R / 65536) 65536 = vb at *
      clear k1 k2 k3 hk HL Hl p1 p2 r1 r2
      rcases hend with ⟨rfl, d1, d2⟩ | ⟨rfl, d1, d2, d3⟩
      · rw [d2] at e1
        rw [d1] at e2
        clear d1 d2
        subst e1 e2
        go_wp2_with (go_at_call 16; refine (C.out _).mono ?_; rintro e w' ⟨rfl, n, rfl⟩)
        go_ret2
        exact ⟨rfl, n, rfl⟩
      · subst e1 e2
        go_wp2_with (first | (go_at_call 16; refine (C.out _).mono ?_; rintro e w' ⟨rfl, n, rfl⟩) | (go_at_call 28; refine (ifIn_any _ _).mono ?_; rintro e w' ⟨rfl, rfl⟩))
        go_ret2
        exact ⟨rfl, _, rfl⟩
theorem sum_any (a : Option Addr) (len cap : Nat) (zs : List Int) (w : World) (hl : zs.length = len) (h4 : len ≤ 4096) (hL : Lst w a zs) :
    Calls Try.prog 23 #[.slice a len cap] w fun e w' => e = .returned (.tuple #[.int .i64 (smV zs), .bool (smB zs)]) ∧ ∃ n, w' = w.drewN n :=
  sum_core a len cap zs w hl h4 hL _ _ rfl rfl
end Go.Proofs.Ytnabfcpapjmgfaa
