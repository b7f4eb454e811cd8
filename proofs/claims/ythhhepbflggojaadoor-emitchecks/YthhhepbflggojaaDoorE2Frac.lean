/-
  What digits.appendFraction leaves.
-/
import Derived.Test.YthhhepbflggojaaDoorE2Nearest
namespace Go.Proofs.YthhhepbflggojaaDoor.D2
set_option maxRecDepth 8000
open Go.RowKit

/- the digits of r / 65536 behind the point -/
def fdig : Nat → Nat → List UInt8
  | 0, _ => []
  | f + 1, r => if r = 0 then [] else dgB (r * 10 / 65536) :: fdig f (r * 10 % 65536)
def frac (r : Nat) : List UInt8 := if r = 0 then [] else 46 :: fdig 16 r
theorem fdig_zero (f : Nat) : fdig f 0 = [] := by cases f <;> simp [fdig]
theorem fdig_len (f r : Nat) : (fdig f r).length ≤ f := by
  induction f generalizing r with
  | zero => simp [fdig]
  | succ f ih =>
    unfold fdig
    split
    · simp
    · have := ih (r * 10 % 65536)
      simp
      omega
def sLen : Value → Nat
  | .slice _ n _ => n
  | _ => 0
theorem own_sLen {w : World} {B e n : Nat} {v : Value} {xs : List Value} (h : w.ownsRow B e 1 v n xs) : sLen v = n := by
  obtain ⟨_, ⟨h0, h1⟩ | ⟨g, cap, cur, hv, _⟩⟩ := h
  · rw [h0]; simp [sLen]; omega
  · rw [hv]; rfl
/- while the loop goes -/
structure FSt (r k rk : Nat) (ys : List UInt8) : Prop where
  k16 : k ≤ 16
  len : ys.length = k + 1
  lt : rk < 65536
  two : 2 ^ k ∣ rk
  all : ys ++ fdig (16 - k) rk = 46 :: fdig 16 r
theorem FSt.start (r : Nat) (h : r < 65536) : FSt r 0 r [46] := ⟨by omega, rfl, h, by simp, rfl⟩
theorem FSt.step {r k rk : Nat} {ys : List UInt8} (h : FSt r k rk ys) (h0 : rk ≠ 0) : FSt r (k + 1) (rk * 10 % 65536) (ys ++ [dgB (rk * 10 / 65536)]) := by
  obtain ⟨h1, h2, h3, ⟨c, h4⟩, h5⟩ := h
  have hk : k < 16 := by
    rcases Nat.lt_or_ge k 16 with h | h
    · exact h
    · obtain rfl : k = 16 := by omega
      exfalso
      rw [h4] at h3 h0
      have : c = 0 := by
        rcases Nat.eq_zero_or_pos c with h | h
        · exact h
        · have := Nat.mul_le_mul_left (2 ^ 16) h
          omega
      rw [this] at h0
      omega
  refine ⟨by omega, by simp [h2], by omega, ?_, ?_⟩
  · have d1 : 2 ^ (k + 1) ∣ rk * 10 := ⟨c * 5, by rw [h4, Nat.pow_succ]; rw [show (10 : Nat) = 2 * 5 from rfl, Nat.mul_assoc (2 ^ k) 2, Nat.mul_assoc (2 ^ k) c]; congr 1; omega⟩
    have d2 : 2 ^ (k + 1) ∣ 65536 := by
      rw [show (65536 : Nat) = 2 ^ 16 from rfl]
      exact Nat.pow_dvd_pow 2 (by omega)
    exact (Nat.dvd_mod_iff d2).2 d1
  · rw [← h5, List.append_assoc]
    congr 1
    rw [show 16 - k = (16 - (k + 1)) + 1 by omega]
    rw [show fdig ((16 - (k + 1)) + 1) rk = dgB (rk * 10 / 65536) :: fdig (16 - (k + 1)) (rk * 10 % 65536) by rw [fdig, if_neg h0]]
    rfl
theorem FSt.done {r k : Nat} {ys : List UInt8} (h : FSt r k 0 ys) : ys = 46 :: fdig 16 r := by
  have := h.all
  rwa [fdig_zero, List.append_nil] at this

set_option maxRecDepth 100000 in
set_option maxHeartbeats 1000000 in
theorem fraction_any (B n r : Nat) (sv : Value) (xs : List Value) (w : World) (hr : r < 65536) (hown : w.ownsRow B 5 1 sv n xs) (hB : B ≤ w.heap.size) (hn : n ≤ 1000) :
    Calls Tryd.prog 61 #[sv, .int .i64 r] w fun e w' => ∃ v', e = .returned v' ∧ w'.ownsRow B 5 1 v' (n + (frac r).length) (xs ++ (frac r).map bcell) ∧ Below B w w' := by
  by_cases h0 : r = 0
  · subst h0
    have HO := hide hown
    clear hown
    go_enter Tryd.func61, Tryd.ntmps61
    go_wp2
    go_ret
    exact ⟨sv, rfl, by simpa [frac] using HO.out, Below.refl _ _⟩
  have hf : frac r = 46 :: fdig 16 r := by unfold frac; rw [if_neg h0]
  rw [hf]
  obtain ⟨F, hF⟩ : ∃ F, fdig 16 r = F := ⟨_, rfl⟩
  rw [hF]
  have HF := hide hF
  clear hF
  obtain ⟨i0, hi, hz0, hz1, hz2⟩ := info_parts info_u8
  have HI := hide hi
  have HI0 := hide hz0
  have HI1 := hide hz1
  have HI2 := hide hz2
  have HO := hide hown
  have hr0 : ((r : Int) == 0) = false := by rw [beq_eq_false_iff_ne]; omega
  have h1 : ¬ (r : Int) = 0 := by omega
  have HS := hide (FSt.start r hr)
  have hr' : (r : Int) ≤ 65535 := by omega
  have HN := hide hn
  clear hi hz0 hz1 hz2 hown h0 hf hr
  go_enter Tryd.func61, Tryd.ntmps61
  go_wp2_with (at_builtin; refine wpList_append_own _ rfl _ _ 43 rfl B 5 i0 (.int .u8 0) 1 1 Tryd.underlying43 HI.out HI0.out HI1.out HI2.out rfl (by decide) _ _ _ rfl (HO.out.alloc _) ⟨w.heap.size, 0, none⟩ 1 1 [.int .u8 46] rfl rfl ?c1 ?c2 ?c3 ?c4 ?c5 ?_)
  case c1 =>
    intro j u hj
    match j, hj with
    | 0, hj => simp at hj; subst hj; simp [Addr.add]
  case c2 => intro u hu; simp at hu; subst hu; rfl
  case c3 => unfold maxLen; omega
  case c4 => omega
  case c5 => simp; omega
  intro v1 w1 hown1 hgrow1 _
  have HB := hide (show Below B w w1 from ((Below.refl _ _).alloc hB _).grown hgrow1 (by simp; omega) (fun k hk => (HO.out.lt k hk).1))
  have HO1 := hide (show w1.ownsRow B 5 1 v1 (n + [46].length) (xs ++ ([46] : List UInt8).map bcell) from hown1)
  clear hown1 hgrow1
  go_wp2_with fail
  go_loopw [0, 1] (fun v vr wr => ∃ (k rk : Nat) (ys : List UInt8), vr = .int .i64 rk ∧ Hid (FSt r k rk ys ∧ wr.ownsRow B 5 1 v (n + ys.length) (xs ++ ys.map bcell) ∧ Below B w wr)) (fun v _ _ => n + 17 - sLen v)
  case atStart => exact ⟨0, r, [46], rfl, hide ⟨HS.out, HO1.out, HB.out⟩⟩
  case round =>
    obtain ⟨k, rk, ys, rfl, HK⟩ := hrel
    obtain ⟨k1, k2, k3⟩ := HK.out
    clear HK
    have hb := k1.lt
    have hb' : (rk : Int) ≤ 65535 := by omega
    clear hb
    by_cases h0 : rk = 0
    · subst h0
      have hy := k1.done
      rw [HF.out] at hy
      subst hy
      have K2 := hide k2
      have K3 := hide k3
      clear k1 k2 k3
      go_wp2
      go_ret
      exact ⟨_, rfl, K2.out, K3.out⟩
    · have h1 : ¬ (rk : Int) = 0 := by omega
      have st := k1.step h0
      have HM := hide (show rk * 10 = 65536 * (rk * 10 / 65536) + rk * 10 % 65536 ∧ rk * 10 / 65536 < 10 ∧ rk * 10 % 65536 < 65536 by omega)
      have e1 : (rk : Int) * 10 / 65536 = ((rk * 10 / 65536 : Nat) : Int) := by omega
      have e2 : (rk : Int) * 10 % 65536 = ((rk * 10 % 65536 : Nat) : Int) := by omega
      have hl := own_sLen k2
      have hk := k1.k16
      have hy := k1.len
      have st2 := st.k16
      have K2 := hide k2
      have K3 := hide k3
      have K1 := hide st
      have hsz := k3.size
      generalize rk * 10 / 65536 = Q at *
      generalize rk * 10 % 65536 = M at *
      have hq : dgB Q = dgB Q := rfl
      have hQ := HM.out.2.1
      have hbc : ∀ y : Int, y = 48 + (Q : Int) → Value.int .u8 y = bcell (dgB Q) := by
        intro y hy
        unfold bcell
        rw [dgB_nat Q hQ, hy]
        congr 1
      have HBC := hide hbc
      have hQ' : (Q : Int) ≤ 9 := by omega
      have f1 : ((rk : Int) != 0) = true := by rw [bne_iff_ne]; exact h1
      clear st k1 k2 k3 hq hbc hQ hn h0
      have HY := hide (show ys.length ≤ 16 by omega)
      have HL2 := hide hl
      clear hk hy hl st2
      go_wp2_with (at_builtin; refine wpList_append_own _ rfl _ _ 43 rfl B 5 i0 (.int .u8 0) 1 1 Tryd.underlying43 HI.out HI0.out HI1.out HI2.out rfl (by decide) _ _ _ rfl (K2.out.alloc _) ⟨wr.heap.size, 0, none⟩ 1 1 [.int .u8 (48 + (Q : Int))] rfl rfl ?d1 ?d2 ?d3 ?d4 ?d5 ?_)
      case d1 =>
        intro j u hj
        match j, hj with
        | 0, hj => simp at hj; subst hj; simp [Addr.add]
      case d2 => intro u hu; simp at hu; subst hu; rfl
      case d3 => have := HY.out; have := HN.out; unfold maxLen; omega
      case d4 => have := HY.out; have := HN.out; omega
      case d5 => simp; omega
      intro v2 w2 hown2 hgrow2 _
      have HB2 := hide (show Below B w w2 from (K3.out.alloc (by omega) _).grown hgrow2 (by simp; omega) (fun k hk => (K2.out.lt k hk).1))
      have HO2 := hide (show w2.ownsRow B 5 1 v2 (n + (ys ++ [dgB Q]).length) (xs ++ (ys ++ [dgB Q]).map bcell) by
        have e : xs ++ (ys ++ [dgB Q]).map bcell = xs ++ (ys.map bcell ++ [.int .u8 (48 + (Q : Int))]) := by
          rw [List.map_append, HBC.out _ rfl]; rfl
        rw [e, List.length_append, ← Nat.add_assoc]
        exact hown2)
      clear hown2 hgrow2
      go_wp2
      go_roundw
      case rel => exact ⟨k + 1, M, _, congrArg _ e2, hide ⟨K1.out, HO2.out, HB2.out⟩⟩
      case measure =>
        have a1 := own_sLen HO2.out
        have a2 := HL2.out
        have a3 := HY.out
        simp only [List.length_append, List.length_cons, List.length_nil] at a1
        simp
        omega
end Go.Proofs.YthhhepbflggojaaDoor.D2
