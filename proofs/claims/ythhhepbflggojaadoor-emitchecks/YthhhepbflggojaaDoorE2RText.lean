/-
  What the reference's Text (chapter 2) answers.
-/
import Derived.Test.YthhhepbflggojaaDoorE2Dec
import Derived.Test.YthhhepbflggojaaDoorE2Text
import Derived.Test.YthhhepbflggojaaDoorInR
import Derived.Lib.TrimByte
namespace Go.Proofs.YthhhepbflggojaaDoor.D2
set_option maxRecDepth 8000
open Go.RowKit Go.Lib

theorem decF_eq (f n : Nat) (h : n < 10 ^ (f + 1)) : decF f n = decDigits n := by
  induction f generalizing n with
  | zero =>
    have hn : n < 10 := by simpa using h
    rw [decDigits_one hn]
    unfold decF
    rw [Nat.mod_eq_of_lt hn]
  | succ f ih =>
    by_cases hn : n < 10
    · rw [decDigits_one hn]; unfold decF; rw [if_pos hn]
    · rw [decF, if_neg hn, ih (n / 10) (by rw [Nat.pow_succ] at h; omega)]
      exact (show decDigits n = _ by rw [decDigits, dif_neg hn]).symm
theorem rtext_out (x : Int) (w : World) (h : inB x = false) :
    Calls Tryd.prog 39 #[.int .i64 x] w fun e w' => e = .returned (.tuple #[.string ⟨#[]⟩, .bool false]) ∧ w' = w := by
  go_enter Tryd.func39, Tryd.ntmps39
  go_wp2_with (go_at_call 31; refine (rin_any _ _).mono ?_; rintro e w' ⟨rfl, rfl⟩)
  go_ret2
  exact ⟨rfl, rfl⟩

set_option maxRecDepth 100000 in
set_option maxHeartbeats 1000000 in
theorem rtext_core (ng : Bool) (x : Int) (a Q M : Nat) (w : World) (hx : x = if ng then -(a : Int) else (a : Int)) (hng : ng = true → 0 < a) (h : inB x = true) (hQ : a / 65536 = Q) (hM : a % 65536 = M) (D : ByteArray) (S : List UInt8 → ByteArray) (z : Nat) (hS : ∀ ys, (S ys).size = z + ys.length)
    (cD : ∀ w, Calls Tryd.prog 24 #[.int .i64 Q] w fun e w' => e = .returned (.string D) ∧ Below w.heap.size w w')
    (rA : ∀ w, (Op.stringOp .add (if ng then ⟨#[45]⟩ else ⟨#[]⟩) D).run Tryd.prog w = .ok (.string (S [])) w)
    (rP : ∀ w, (Op.stringOp .add (S []) ⟨#[46]⟩).run Tryd.prog w = .ok (.string (S [46])) w)
    (rS : ∀ w ys (c : UInt8), ys.length ≤ 17 → (Op.stringOp .add (S ys) ⟨#[c]⟩).run Tryd.prog w = .ok (.string (S (ys ++ [c]))) w) :
    Calls Tryd.prog 39 #[.int .i64 x] w fun e w' => e = .returned (.tuple #[.string (S (frac M)), .bool true]) ∧ Below w.heap.size w w' := by
  have hb := inB_bd h
  have CD := hide cD
  have RS := hide rS
  have HSZ := hide hS
  have e1 : (a : Int) / 65536 = (Q : Int) := by omega
  have e2 : (a : Int) % 65536 = (M : Int) := by omega
  have b1 : (a : Int) ≤ 1099511627776 := by cases ng <;> simp at hx <;> omega
  have HM := hide (show M < 65536 by omega)
  have m1 : (M : Int) ≤ 65535 := by omega
  have wayM : M = 0 ∨ M ≠ 0 := by omega
  clear hb hQ hM cD rS hS
  cases ng
  all_goals
    first
    | (obtain rfl : x = (a : Int) := hx
       have hsg : decide ((a : Int) < 0) = false := by simp
       have rA' : ∀ w, (Op.stringOp .add ⟨#[]⟩ D).run Tryd.prog w = .ok (.string (S [])) w := rA)
    | (obtain rfl : x = -(a : Int) := hx
       have hpos : (0 : Int) < (a : Int) := by have := hng rfl; omega
       have hsg : decide (-(a : Int) < 0) = true := by simp; omega
       have rA' : ∀ w, (Op.stringOp .add ⟨#[45]⟩ D).run Tryd.prog w = .ok (.string (S [])) w := rA)
    clear rA hng
    rcases wayM with rfl | hM0
    · clear HM m1
      rw [show frac 0 = [] from rfl]
      go_enter Tryd.func39, Tryd.ntmps39
      go_wp2_with (first | (go_at_call 31; refine (rin_any _ _).mono ?_; rintro e w' ⟨rfl, rfl⟩) | (go_at_call 24; refine (CD.out _).mono ?_; rintro e w1 ⟨rfl, hb1⟩))
      have HB := hide hb1
      clear hb1
      go_loopw [4, 5] (fun vs vr wr => vs = .string (S []) ∧ vr = .int .i64 0 ∧ Hid (Below w'.heap.size w' wr)) (fun _ _ _ => 0)
      case atStart => exact ⟨rfl, congrArg _ e2, HB⟩
      case round =>
        obtain ⟨rfl, rfl, HK⟩ := hrel
        go_wp2
        go_ret2
        exact ⟨rfl, HK.out⟩
    · have f1 : ((M : Int) != 0) = true := by rw [bne_iff_ne]; omega
      have f2 : ¬ (M : Int) = 0 := by omega
      have hf : frac M = 46 :: fdig 16 M := by unfold frac; rw [if_neg hM0]
      rw [hf]
      have HS := hide (FSt.start M HM.out)
      obtain ⟨F, hF⟩ : ∃ F, fdig 16 M = F := ⟨_, rfl⟩
      rw [hF]
      have HF := hide hF
      clear hF hf hM0 HM
      go_enter Tryd.func39, Tryd.ntmps39
      go_wp2_with (first | (go_at_call 31; refine (rin_any _ _).mono ?_; rintro e w' ⟨rfl, rfl⟩) | (go_at_call 24; refine (CD.out _).mono ?_; rintro e w1 ⟨rfl, hb1⟩))
      have HB := hide hb1
      clear hb1
      go_loopw [4, 5] (fun vs vr wr => ∃ (k rk : Nat) (ys : List UInt8), vs = .string (S ys) ∧ vr = .int .i64 rk ∧ Hid (FSt M k rk ys ∧ Below w'.heap.size w' wr)) (fun vs _ _ => z + 18 - strSize vs)
      case atStart => exact ⟨0, M, [46], rfl, congrArg _ e2, hide ⟨HS.out, HB.out⟩⟩
      case round =>
        obtain ⟨k, rk, ys, rfl, rfl, HK⟩ := hrel
        obtain ⟨k1, k2⟩ := HK.out
        clear HK
        have hb' : (rk : Int) ≤ 65535 := by have := k1.lt; omega
        by_cases h0 : rk = 0
        · subst h0
          have hy := k1.done
          rw [HF.out] at hy
          subst hy
          have K2 := hide k2
          clear k1 k2
          go_wp2
          go_ret2
          exact ⟨rfl, K2.out⟩
        · have g1 : ¬ (rk : Int) = 0 := by omega
          have g2 : ((rk : Int) != 0) = true := by rw [bne_iff_ne]; exact g1
          have st := k1.step h0
          have hQ9 : rk * 10 / 65536 < 10 := by have := k1.lt; omega
          have q1 : (rk : Int) * 10 / 65536 = ((rk * 10 / 65536 : Nat) : Int) := by omega
          have q2 : (rk : Int) * 10 % 65536 = ((rk * 10 % 65536 : Nat) : Int) := by omega
          have hlen := k1.len
          have hk16 := st.k16
          have hadd := fun w => RS.out w ys (dgB (rk * 10 / 65536)) (by omega)
          have hone := fun w => one_byte w (dgB (rk * 10 / 65536)) (48 + ((rk * 10 / 65536 : Nat) : Int)) (digit_nat (rk * 10 / 65536) hQ9)
          have HL := hide (show ys.length ≤ 16 by omega)
          have K1 := hide st
          have K2 := hide k2
          have HSL := hide hk16
          generalize rk * 10 / 65536 = Q9 at *
          generalize rk * 10 % 65536 = M9 at *
          have hQ9' : (Q9 : Int) ≤ 9 := by omega
          generalize dgB Q9 = c at *
          clear st k1 k2 hlen hk16 h0 hQ9
          go_wp2
          go_roundw
          case rel => exact ⟨k + 1, M9, _, rfl, congrArg _ q2, hide ⟨K1.out, K2.out.alloc (K2.out.size) _⟩⟩
          case measure =>
            have a1 := HSZ.out ys
            have a2 := HSZ.out (ys ++ [c])
            have a3 := HL.out
            simp only [List.length_append, List.length_cons, List.length_nil] at a2
            simp [strSize]
            omega

theorem rtext_any (x : Int) (w : World) :
    Calls Tryd.prog 39 #[.int .i64 x] w fun e w' => e = .returned (textV x) ∧ Below w.heap.size w w' := by
  unfold textV
  cases h : inB x
  · refine (rtext_out x w h).mono ?_
    rintro e w' ⟨rfl, rfl⟩
    exact ⟨rfl, Below.refl _ _⟩
  · rw [if_pos rfl]
    have hb := inB_bd h
    have hQ : x.natAbs / 65536 < 10 ^ (7 + 1) := by omega
    have hl := dec_len (x.natAbs / 65536) (by omega)
    have cD : ∀ w, Calls Tryd.prog 24 #[.int .i64 ((x.natAbs / 65536 : Nat) : Int)] w fun e w' => e = .returned (.string ⟨(decDigits (x.natAbs / 65536)).toArray⟩) ∧ Below w.heap.size w w' := by
      intro w
      have := dec_any 7 (x.natAbs / 65536) (by omega) hQ (by omega) w
      rwa [decF_eq 7 _ hQ] at this
    have sg : textL x = (if decide (x < 0) then [45] else []) ++ decDigits (x.natAbs / 65536) ++ frac (x.natAbs % 65536) := by
      unfold textL
      by_cases h0 : x < 0
      · simp [h0]
      · simp [h0]
    rw [sg]
    have hx : x = if decide (x < 0) then -(x.natAbs : Int) else (x.natAbs : Int) := by
      by_cases h0 : x < 0
      · rw [decide_eq_true h0, if_pos rfl]; omega
      · rw [decide_eq_false h0, if_neg (by simp)]; omega
    have hng : decide (x < 0) = true → 0 < x.natAbs := by intro h; simp at h; omega
    generalize decide (x < 0) = ng at *
    generalize decDigits (x.natAbs / 65536) = dd at *
    refine rtext_core ng x x.natAbs _ _ w hx hng h rfl rfl ⟨dd.toArray⟩ (fun ys => ⟨((if ng then [45] else []) ++ dd ++ ys).toArray⟩) ((if ng then 1 else 0) + dd.length) ?_ cD ?_ ?_ ?_
    · intro ys
      rw [size_mk]
      cases ng <;> simp <;> omega
    · intro w
      cases ng
      · simpa using run_string_add_lists (P := Tryd.prog) (w := w) [] dd (by simp) (by omega)
      · simpa using run_string_add_lists (P := Tryd.prog) (w := w) [45] dd (by simp) (by omega)
    · intro w
      cases ng
      · simpa using run_string_add_lists (P := Tryd.prog) (w := w) dd [46] (by omega) (by simp)
      · simpa using run_string_add_lists (P := Tryd.prog) (w := w) (45 :: dd) [46] (by simp; omega) (by simp)
    · intro w ys c hy
      cases ng
      · simpa using run_string_add_lists (P := Tryd.prog) (w := w) (dd ++ ys) [c] (by simp; omega) (by simp)
      · simpa using run_string_add_lists (P := Tryd.prog) (w := w) (45 :: (dd ++ ys)) [c] (by simp; omega) (by simp)
end Go.Proofs.YthhhepbflggojaaDoor.D2
