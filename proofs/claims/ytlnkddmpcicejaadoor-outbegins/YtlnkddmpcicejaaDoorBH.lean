/-
  Joined: O5Str, O5RNm, O5RStr, O5RInt, O5AppS, O5NB, O5Wr, O5WrI.
-/
import Derived.Test.YtlnkddmpcicejaaDoorBC
import Derived.Test.YtlnkddmpcicejaaDoorBE
import Derived.Lib.AppendStr
/-
  What the landed isReadable and appendString answer.
-/
namespace Go.Proofs.YtlnkddmpcicejaaDoor
open Go.RowKit Go.Deep

/- a string's text -/
def isRd (b : Nat) : Bool := !(decide ((b : Int) < 32)) && !(decide (126 < (b : Int)))
def readB (l : List UInt8) : Bool := l.all fun c => isRd c.toNat
def isSl (b : Nat) : Bool := ((b : Int) == 40) || ((b : Int) == 41) || ((b : Int) == 92)
def schT (c : UInt8) : List UInt8 := if isSl c.toNat then [92, c] else [c]
def strT (l : List UInt8) : List UInt8 := if readB l then 40 :: (l.flatMap schT ++ [41]) else 60 :: (l.flatMap hexT ++ [62])
theorem schT_len (c : UInt8) : (schT c).length ≤ 2 := by unfold schT; split <;> simp
theorem sch_len (l : List UInt8) : (l.flatMap schT).length ≤ 2 * l.length := by
  induction l with
  | nil => simp
  | cons c l ih => have := schT_len c; simp only [List.flatMap_cons, List.length_append, List.length_cons]; omega
theorem hex_len (l : List UInt8) : (l.flatMap hexT).length = 2 * l.length := by
  induction l with
  | nil => simp
  | cons c l ih => simp only [List.flatMap_cons, List.length_append, List.length_cons, ih, hexT, List.length_nil]; omega
theorem flat_take (f : UInt8 → List UInt8) (s : ByteArray) (k : Nat) (h : k < s.size) : (s.data.toList.take (k + 1)).flatMap f = (s.data.toList.take k).flatMap f ++ f s[k] := by
  rw [take_at s k h, List.flatMap_append]
  simp
theorem readable_any (s : ByteArray) (w : World) (hs : s.size ≤ 9223372036854775807) :
    Calls Tryd.prog 54 #[.string s] w fun e w' => e = .returned (.bool (readB s.data.toList)) ∧ w' = w := by
  obtain ⟨R, hR⟩ : ∃ R, readB s.data.toList = R := ⟨_, rfl⟩
  rw [hR]
  have HR := hide hR
  have hs' : (s.size : Int) ≤ 9223372036854775807 := by omega
  clear hR hs
  go_enter Tryd.func54, Tryd.ntmps54
  go_wp2_with fail
  go_loop [6] (fun vn => ∃ k : Nat, vn = .int .i64 k ∧ Hid (k ≤ s.size ∧ readB (s.data.toList.take k) = true)) (fun vn => s.size - (intOf vn).toNat)
  case atStart => exact ⟨0, rfl, hide ⟨by omega, by simp [readB]⟩⟩
  case round =>
    obtain ⟨k, rfl, HK⟩ := hrel
    obtain ⟨k1, k2⟩ := HK.out
    clear HK
    by_cases hlt : k < s.size
    · have hlt' : (k : Int) < (s.size : Int) := by omega
      have K := hide k2
      have HD := hide (show isRd s[k].toNat = (!(decide ((s[k].toNat : Int) < 32)) && !(decide (126 < (s[k].toNat : Int)))) from rfl)
      clear k2
      cases h1 : decide ((s[k].toNat : Int) < 32) <;> cases h2 : decide (126 < (s[k].toNat : Int))
      case false.false =>
        have HZ := hide (show isRd s[k].toNat = true by rw [HD.out, h1, h2]; rfl)
        go_wp2
        go_round
        case rel => exact ⟨k + 1, by go_num, hide ⟨by omega, by unfold readB; rw [take_at s k hlt, List.all_append]; have := K.out; unfold readB at this; rw [this]; simpa using HZ.out⟩⟩
        case measure => simp [intOf]; omega
      all_goals
        obtain rfl : R = false := by
          rw [← HR.out, readB, List.all_eq_false]
          exact ⟨s[k], List.mem_iff_getElem?.2 ⟨k, get_at s k hlt⟩, by rw [HD.out, h1, h2]; simp⟩
        clear HR
        go_wp2
        go_ret
        exact ⟨rfl, rfl⟩
    · have hlt' : ¬ (k : Int) < (s.size : Int) := by omega
      obtain rfl : R = true := by
        rw [← HR.out]
        rwa [List.take_of_length_le (by rw [← Lib.size_eq]; omega)] at k2
      clear k2 HR
      go_wp2
      go_ret
      exact ⟨rfl, rfl⟩
set_option maxRecDepth 8000 in
set_option maxHeartbeats 4000000 in
theorem appendHexes_any (v : Value) (ys : List UInt8) (B : Nat) (s : ByteArray) (w : World) (h : BRow w B v ys) (hB : B ≤ w.heap.size) (hl : ys.length + 2 * s.size + 2 ≤ 140737488355328) (hr : readB s.data.toList = false) :
    Calls Tryd.prog 42 #[v, .string s] w fun e w' => ∃ v', e = .returned v' ∧ BRow w' B v' (ys ++ strT s.data.toList) ∧ Below B w w' := by
  have e0 : strT s.data.toList = 60 :: (s.data.toList.flatMap hexT ++ [62]) := by unfold strT; rw [hr]; rfl
  rw [e0]
  have CR := hide (readable_any s w (by omega))
  rw [hr] at CR
  obtain ⟨v1, w1, hr1, hb1, hw1⟩ := app_b (W := w) [60] h hB (by simp) (by simp; omega) _ rfl
  have HR := hide hr1
  have HB1 := hide hb1
  have HW1 := hide hw1
  have hsz : (s.size : Int) ≤ 9223372036854775807 := by omega
  have HLL := hide hl
  have HBB := hide hB
  clear hr1 hb1 hw1 hl hr e0
  go_enter Tryd.func42, Tryd.ntmps42
  go_wp2_with (first | (go_at_call 54; refine CR.out.mono ?_; rintro e wy ⟨rfl, hy⟩; subst wy) | (at_builtin; refine Lib.wpList_append_run _ rfl _ _ _ _ rfl _ _ rfl rfl _ _ HR.out ?_))
  go_loopw [0, 15] (fun vt vi wr => ∃ k : Nat, vi = .int .i64 k ∧ Hid (k ≤ s.size ∧ BRow wr B vt (ys ++ 60 :: (s.data.toList.take k).flatMap hexT) ∧ Below B w wr ∧ B ≤ wr.heap.size)) (fun _ vi _ => s.size - (intOf vi).toNat)
  case atStart => exact ⟨0, rfl, hide ⟨Nat.zero_le _, by simpa using HB1.out, HW1.out, Nat.le_trans HBB.out HW1.out.size⟩⟩
  case round =>
    clear HB1 HW1 HR CR
    obtain ⟨k, rfl, HV⟩ := hrel
    obtain ⟨hk, hbr, hbel, hBr⟩ := HV.out
    clear HV
    have HBL := hide hbel
    have hk0 : (0 : Int) ≤ (k : Int) := by omega
    have hlen : (ys ++ 60 :: (s.data.toList.take k).flatMap hexT).length = ys.length + 1 + 2 * k := by
      have := hex_len (s.data.toList.take k)
      have hz : s.data.toList.length = s.size := (Lib.size_eq s).symm
      simp only [List.length_append, List.length_cons, this, List.length_take, hz]
      omega
    by_cases hlt : k < s.size
    case neg =>
      have hks : k = s.size := by omega
      obtain ⟨v2, w2, hr2, hb2, hw2⟩ := app_b (W := wr) [62] hbr hBr (by simp) (by have := HLL.out; rw [hlen]; simp only [List.length_singleton]; omega) _ rfl
      have HR2 := hide hr2
      have HF : Hid (BRow w2 B v2 (ys ++ 60 :: (s.data.toList.flatMap hexT ++ [62]))) := hide (by
        have := hb2
        rw [List.take_of_length_le (by rw [← Lib.size_eq]; omega)] at this
        simpa using this)
      have HW2 := hide (hbel.trans hw2)
      clear hk hbr hbel hks hlen hr2 hb2 hw2
      go_wp2_with (at_builtin; refine Lib.wpList_append_run _ rfl _ _ _ _ rfl _ _ rfl rfl _ _ HR2.out ?_)
      go_ret
      exact ⟨_, rfl, HF.out, HW2.out⟩
    case pos =>
      have CH := hide (fun x (hx : BRow x B u0 (ys ++ 60 :: (s.data.toList.take k).flatMap hexT)) hz => appendHex_any u0 _ B s[k] x hx hz (by have := HLL.out; rw [hlen]; omega))
      have HST := hide (flat_take hexT s k hlt)
      have HBR := hide hbr
      clear hk hbr hbel hlen
      go_wp2_with (go_at_call 53; refine (CH.out _ HBR.out hBr).mono ?_; rintro e wy ⟨v3, rfl, hb3, hw3⟩; have HB3 := hide hb3; have HW3 := hide hw3; clear hb3 hw3)
      go_roundw
      case rel => exact ⟨k + 1, by go_num, hide ⟨by omega, by rw [HST.out]; have := HB3.out; simpa using this, HBL.out.trans HW3.out, Nat.le_trans hBr HW3.out.size⟩⟩
      case measure => simp [intOf]; omega
set_option maxRecDepth 8000 in
set_option maxHeartbeats 4000000 in
theorem appendPlain_any (v : Value) (ys : List UInt8) (B : Nat) (s : ByteArray) (w : World) (h : BRow w B v ys) (hB : B ≤ w.heap.size) (hl : ys.length + 2 * s.size + 2 ≤ 140737488355328) (hr : readB s.data.toList = true) :
    Calls Tryd.prog 42 #[v, .string s] w fun e w' => ∃ v', e = .returned v' ∧ BRow w' B v' (ys ++ strT s.data.toList) ∧ Below B w w' := by
  have e0 : strT s.data.toList = 40 :: (s.data.toList.flatMap schT ++ [41]) := by unfold strT; rw [hr]; rfl
  rw [e0]
  have CR := hide (readable_any s w (by omega))
  rw [hr] at CR
  obtain ⟨v1, w1, hr1, hb1, hw1⟩ := app_b (W := w) [40] h hB (by simp) (by simp; omega) _ rfl
  have HR := hide hr1
  have HB1 := hide hb1
  have HW1 := hide hw1
  have hsz : (s.size : Int) ≤ 9223372036854775807 := by omega
  have HLL := hide hl
  have HBB := hide hB
  clear hr1 hb1 hw1 hl hr e0
  go_enter Tryd.func42, Tryd.ntmps42
  go_wp2_with (first | (go_at_call 54; refine CR.out.mono ?_; rintro e wy ⟨rfl, hy⟩; subst wy) | (at_builtin; refine Lib.wpList_append_run _ rfl _ _ _ _ rfl _ _ rfl rfl _ _ HR.out ?_))
  go_loopw [0, 32] (fun vt vi wr => ∃ k : Nat, vi = .int .i64 k ∧ Hid (k ≤ s.size ∧ BRow wr B vt (ys ++ 40 :: (s.data.toList.take k).flatMap schT) ∧ Below B w wr ∧ B ≤ wr.heap.size)) (fun _ vi _ => s.size - (intOf vi).toNat)
  case atStart => exact ⟨0, rfl, hide ⟨Nat.zero_le _, by simpa using HB1.out, HW1.out, Nat.le_trans HBB.out HW1.out.size⟩⟩
  case round =>
    clear HB1 HW1 HR CR
    obtain ⟨k, rfl, HV⟩ := hrel
    obtain ⟨hk, hbr, hbel, hBr⟩ := HV.out
    clear HV
    have HBL := hide hbel
    have hk0 : (0 : Int) ≤ (k : Int) := by omega
    have hlen : (ys ++ 40 :: (s.data.toList.take k).flatMap schT).length ≤ ys.length + 1 + 2 * k := by
      have := sch_len (s.data.toList.take k)
      simp only [List.length_append, List.length_cons, List.length_take] at *
      omega
    by_cases hlt : k < s.size
    case neg =>
      have hks : k = s.size := by omega
      obtain ⟨v2, w2, hr2, hb2, hw2⟩ := app_b (W := wr) [41] hbr hBr (by simp) (by have := HLL.out; simp only [List.length_singleton]; omega) _ rfl
      have HR2 := hide hr2
      have HF : Hid (BRow w2 B v2 (ys ++ 40 :: (s.data.toList.flatMap schT ++ [41]))) := hide (by
        have := hb2
        rw [List.take_of_length_le (by rw [← Lib.size_eq]; omega)] at this
        simpa using this)
      have HW2 := hide (hbel.trans hw2)
      clear hk hbr hbel hks hlen hr2 hb2 hw2
      go_wp2_with (at_builtin; refine Lib.wpList_append_run _ rfl _ _ _ _ rfl _ _ rfl rfl _ _ HR2.out ?_)
      go_ret
      exact ⟨_, rfl, HF.out, HW2.out⟩
    case pos =>
      have HD := hide (show isSl s[k].toNat = (((s[k].toNat : Int) == 40) || ((s[k].toNat : Int) == 41) || ((s[k].toNat : Int) == 92)) from rfl)
      have HST := hide (flat_take schT s k hlt)
      cases hq : isSl s[k].toNat
      · obtain ⟨v2, w2, hr2, hb2, hw2⟩ := app_b (W := wr) [s[k]] (B := B) hbr hBr (by simp) (by have := HLL.out; simp only [List.length_singleton]; omega) _ rfl
        have HR2 := hide hr2
        have HB2 := hide hb2
        have HW2 := hide hw2
        have HN := hide (show schT s[k] = [s[k]] by unfold schT; rw [hq]; rfl)
        have hq' := HD.out
        rw [hq] at hq'
        have q1 : ((s[k].toNat : Int) == 40) = false := by revert hq'; cases ((s[k].toNat : Int) == 40) <;> simp
        have q2 : ((s[k].toNat : Int) == 41) = false := by revert hq'; cases ((s[k].toNat : Int) == 41) <;> simp
        have q3 : ((s[k].toNat : Int) == 92) = false := by revert hq'; cases ((s[k].toNat : Int) == 92) <;> simp
        clear hk hbr hbel hlen hr2 hb2 hw2 hq hq' HD
        go_wp2_with (at_builtin; refine Lib.wpList_append_run _ rfl _ _ _ _ rfl _ _ rfl rfl _ _ HR2.out ?_)
        go_roundw
        case rel => exact ⟨k + 1, by go_num, hide ⟨by omega, by rw [HST.out, HN.out]; have := HB2.out; simpa using this, HBL.out.trans HW2.out, Nat.le_trans hBr HW2.out.size⟩⟩
        case measure => simp [intOf]; omega
      · obtain ⟨v2, w2, hr2, hb2, hw2⟩ := app_b (W := wr) [92] (B := B) hbr hBr (by simp) (by have := HLL.out; simp only [List.length_singleton]; omega) _ rfl
        obtain ⟨v3, w3, hr3, hb3, hw3⟩ := app_b (W := w2) [s[k]] (B := B) hb2 (Nat.le_trans hBr hw2.size) (by simp) (by have := HLL.out; simp only [List.length_append, List.length_singleton] at hlen ⊢; omega) _ rfl
        have HR2 := hide hr2
        have HR3 := hide hr3
        have HB3 := hide hb3
        have HW3 := hide (hw2.trans hw3)
        have HN := hide (show schT s[k] = [92, s[k]] by unfold schT; rw [hq]; rfl)
        have hq' := HD.out
        rw [hq] at hq'
        clear hk hbr hbel hlen hr2 hb2 hw2 hr3 hb3 hw3 hq HD
        have hq2 : ((s[k].toNat : Int) == 40) = true ∨ (((s[k].toNat : Int) == 40) = false ∧ ((s[k].toNat : Int) == 41) = true) ∨ (((s[k].toNat : Int) == 40) = false ∧ ((s[k].toNat : Int) == 41) = false ∧ ((s[k].toNat : Int) == 92) = true) := by
          revert hq'
          cases ((s[k].toNat : Int) == 40) <;> cases ((s[k].toNat : Int) == 41) <;> cases ((s[k].toNat : Int) == 92) <;> simp
        clear hq'
        rcases hq2 with q1 | ⟨q1, q2⟩ | ⟨q1, q2, q3⟩
        all_goals
          go_wp2_with (first | (at_builtin; refine Lib.wpList_append_run _ rfl _ _ _ _ rfl _ _ rfl rfl _ _ HR2.out ?_) | (at_builtin; refine Lib.wpList_append_run _ rfl _ _ _ _ rfl _ _ rfl rfl _ _ HR3.out ?_))
          go_roundw
          case rel => exact ⟨k + 1, by go_num, hide ⟨by omega, by rw [HST.out, HN.out]; have := HB3.out; simpa using this, HBL.out.trans HW3.out, Nat.le_trans hBr HW3.out.size⟩⟩
          case measure => simp [intOf]; omega
theorem appendString_any (v : Value) (ys : List UInt8) (B : Nat) (s : ByteArray) (w : World) (h : BRow w B v ys) (hB : B ≤ w.heap.size) (hl : ys.length + 2 * s.size + 2 ≤ 140737488355328) :
    Calls Tryd.prog 42 #[v, .string s] w fun e w' => ∃ v', e = .returned v' ∧ BRow w' B v' (ys ++ strT s.data.toList) ∧ Below B w w' := by
  cases hr : readB s.data.toList
  · exact appendHexes_any v ys B s w h hB hl hr
  · exact appendPlain_any v ys B s w h hB hl hr
end Go.Proofs.YtlnkddmpcicejaaDoor
/-
  What the reference's Name answers: the same text as the landed appendName's.
-/
namespace Go.Proofs.YtlnkddmpcicejaaDoor
open Go.RowKit Go.Deep

theorem brow_lit (w : World) (l : List UInt8) (n : Nat) (hn : l.length = n) (hm : n ≤ 1000) : BRow (w.alloc (.cells (l.map bcell).toArray 5)) w.heap.size (.slice (some ⟨w.heap.size, 0, none⟩) n n) l := by
  subst hn
  have := World.ownsRow_lit (e := 5) (base := w.heap.size) (size := 1) w (l.map bcell).toArray l.length (Nat.le_refl _) (by unfold maxLen; omega) (by simp)
  exact this
theorem isPl_eq (b : Nat) : isPl b = (decide ((33 : Int) ≤ (b : Int)) && decide ((b : Int) ≤ 126) && !isDl b && ((b : Int) != 35)) := by
  unfold isPl
  have e1 : decide (32 < b) = decide ((33 : Int) ≤ (b : Int)) := by rw [Bool.eq_iff_iff]; simp; omega
  have e2 : decide (b ≤ 126) = decide ((b : Int) ≤ 126) := by simp; omega
  have e3 : decide (b ≠ 35) = ((b : Int) != 35) := by rw [Bool.eq_iff_iff]; simp; omega
  rw [e1, e2, e3]
  cases ((b : Int) != 35) <;> cases isDl b <;> simp
end Go.Proofs.YtlnkddmpcicejaaDoor
/-
  What the reference's String answers: the same text as the landed appendString's.
-/
namespace Go.Proofs.YtlnkddmpcicejaaDoor
open Go.RowKit Go.Deep

theorem brow_lit2 (w : World) (B : Nat) (hB : B ≤ w.heap.size) (l : List UInt8) (n : Nat) (hn : l.length = n) (hm : n ≤ 1000) : BRow (w.alloc (.cells (l.map bcell).toArray 5)) B (.slice (some ⟨w.heap.size, 0, none⟩) n n) l := by
  subst hn
  have := World.ownsRow_lit (e := 5) (base := B) (size := 1) w (l.map bcell).toArray l.length hB (by unfold maxLen; omega) (by simp)
  exact this
end Go.Proofs.YtlnkddmpcicejaaDoor
/-
  What the reference's Int answers: a number's digits.
-/
namespace Go.Proofs.YtlnkddmpcicejaaDoor
open Go.RowKit Go.Deep Go.Lib

def intT (x : Int) : List UInt8 := if x < 0 then 45 :: decDigits x.natAbs else decDigits x.natAbs
end Go.Proofs.YtlnkddmpcicejaaDoor
/-
  A string's bytes appended to a row that the call owns; what strconv.AppendBool answers.
-/
namespace Go.Proofs.YtlnkddmpcicejaaDoor
open Go.RowKit Go.Deep

theorem strCells_b (s : ByteArray) : Lib.strCells s = s.data.toList.map bcell := rfl
theorem app_s {W : World} {B : Nat} {v : Value} {ys : List UInt8} (s : ByteArray) (h : BRow W B v ys) (hB : B ≤ W.heap.size) (hl : ys.length + s.size ≤ 140737488355328) :
    ∃ v' w2, (Builtin.append_ #[52, 9] 52 #[v, .string s]).run Tryd.prog W = .ok v' w2 ∧ BRow w2 B v' (ys ++ s.data.toList) ∧ Below B W w2 := by
  obtain ⟨i0, hi, hz0, hz1, hz2⟩ := info_parts5 info_u8
  obtain ⟨v', w2, hr, ho, hg, _⟩ := Lib.run_append_own_string (P := Tryd.prog) W B 52 9 52 5 i0 Tryd.underlying52 Tryd.underlying9 hi hz0 hz1 hz2 v ys.length (ys.map bcell) h s (by unfold maxLen; omega) hl hB
  refine ⟨v', w2, hr, ?_, (Below.refl B W).grown hg (by omega) fun k hk' => (World.ownsRow.lt h k hk').1⟩
  unfold BRow
  rw [List.map_append, List.length_append, ← Lib.size_eq, ← strCells_b]
  exact ho
def boolT (b : Bool) : List UInt8 := if b then [116, 114, 117, 101] else [102, 97, 108, 115, 101]
theorem appendBool0_any (v : Value) (ys : List UInt8) (B : Nat) (b : Bool) (w : World) (h : BRow w B v ys) (hB : B ≤ w.heap.size) (hl : ys.length + 5 ≤ 140737488355328) :
    Calls Tryd.prog 48 #[v, .bool b] w fun e w' => ∃ v', e = .returned v' ∧ BRow w' B v' (ys ++ boolT b) ∧ Below B w w' := by
  cases b
  · obtain ⟨v1, w1, hr, hb1, hw1⟩ := app_s (W := w) ⟨#[102, 97, 108, 115, 101]⟩ h hB hl
    have HR := hide hr
    clear hr
    go_enter Tryd.func48, Tryd.ntmps48
    go_wp2_with (at_builtin; refine Lib.wpList_append_run _ rfl _ _ _ _ rfl _ _ rfl rfl _ _ HR.out ?_)
    go_ret
    exact ⟨_, rfl, hb1, hw1⟩
  · obtain ⟨v1, w1, hr, hb1, hw1⟩ := app_s (W := w) ⟨#[116, 114, 117, 101]⟩ h hB (Nat.le_trans (by show _ + 4 ≤ _ + 5; omega) hl)
    have HR := hide hr
    clear hr
    go_enter Tryd.func48, Tryd.ntmps48
    go_wp2_with (at_builtin; refine Lib.wpList_append_run _ rfl _ _ _ _ rfl _ _ rfl rfl _ _ HR.out ?_)
    go_ret
    exact ⟨_, rfl, hb1, hw1⟩
theorem appendBool_any (v : Value) (ys : List UInt8) (B : Nat) (b : Bool) (w : World) (h : BRow w B v ys) (hB : B ≤ w.heap.size) (hl : ys.length + 5 ≤ 140737488355328) :
    Calls Tryd.prog 38 #[v, .bool b] w fun e w' => ∃ v', e = .returned v' ∧ BRow w' B v' (ys ++ boolT b) ∧ Below B w w' := by
  have C := hide (appendBool0_any v ys B b w h hB hl)
  clear h hB hl
  go_enter Tryd.func38, Tryd.ntmps38
  go_wp2_with (go_at_call 48; refine C.out.mono ?_; rintro e wy ⟨v3, rfl, hb3, hw3⟩)
  go_ret
  exact ⟨_, rfl, hb3, hw3⟩
end Go.Proofs.YtlnkddmpcicejaaDoor
/-
  What an append to a row of bytes leaves alone: every block that is no row of bytes.
-/
namespace Go.Proofs.YtlnkddmpcicejaaDoor
open Go.RowKit Go.Deep

structure NB (w w' : World) : Prop where
  size : w.heap.size ≤ w'.heap.size
  block : ∀ k, k < w.heap.size → (∀ c f, w.heap[k]? ≠ some (.cells c 5 f)) → w'.heap[k]? = w.heap[k]?
theorem NB.refl (w : World) : NB w w := ⟨Nat.le_refl _, fun _ _ _ => rfl⟩
theorem NB.trans {a b c : World} (h : NB a b) (k : NB b c) : NB a c :=
  ⟨Nat.le_trans h.size k.size, fun i hi hn => by
    have e := h.block i hi hn
    rw [k.block i (Nat.lt_of_lt_of_le hi h.size) (by rw [e]; exact hn), e]⟩
theorem NB.below {w w' : World} (h : Below w.heap.size w w') : NB w w' := ⟨h.size, fun k hk _ => h.block k hk⟩
theorem NB.grown {w w' : World} {B : Nat} {v : Value} {ys : List UInt8} (h : BRow w B v ys) (hg : w.grownBy w' v.ownBlock) : NB w w' :=
  ⟨hg.size, fun k hk hn => hg.block k hk (fun e => by
    obtain ⟨_, ⟨h0, _⟩ | ⟨g, cap, cur, hv, _, hh, _⟩⟩ := h
    · rw [h0] at e; simp [Value.ownBlock] at e
    · rw [hv] at e
      have : k = g := by simpa [Value.ownBlock] using e
      subst this
      exact hn _ _ hh)⟩
/- an object's six cells in a block of its own stand -/
theorem Six.nb {w w' : World} {b : Nat} {p : Pay} {ka : Option Addr} {kc : Nat} {ia : Option Addr} {n ic : Nat} (h : Six w b 0 p ka kc ia n ic) (hb : b < w.heap.size) (ht : ∀ c f, w.heap[b]? ≠ some (.cells c 5 f)) (hn : NB w w') : Six w' b 0 p ka kc ia n ic := by
  have e := hn.block b hb ht
  have ec : ∀ o, w'.cell? ⟨b, o, none⟩ = w.cell? ⟨b, o, none⟩ := fun o => World.cell?_of_block e
  unfold Six at h ⊢
  simpa only [ec] using h
theorem app_b2 {W : World} {B : Nat} {v : Value} {ys : List UInt8} (news : List UInt8) (h : BRow W B v ys) (hB : B ≤ W.heap.size) (hm : 0 < news.length) (hl : ys.length + news.length ≤ 140737488355328) (H : Nat) (hH : W.heap.size = H) :
    ∃ v' w2, (Builtin.append_ #[52, 52] 52 #[v, .slice (some ⟨H, 0, none⟩) news.length news.length]).run Tryd.prog (W.alloc (.cells (news.map bcell).toArray 5)) = .ok v' w2 ∧
      BRow w2 B v' (ys ++ news) ∧ Below B W w2 ∧ NB W w2 := by
  obtain ⟨i0, hi, hz0, hz1, hz2⟩ := info_parts5 info_u8
  subst hH
  obtain ⟨g, cap, w2, hr, ho, hg, _, _⟩ := run_append_lies (P := Tryd.prog) (W.alloc (.cells (news.map bcell).toArray 5)) 52 52 B 5 i0 _ 1 1 Tryd.underlying52 hi hz0 hz1 hz2 rfl (by decide) v ys.length (ys.map bcell) (World.ownsRow.alloc h _) ⟨W.heap.size, 0, none⟩ news.length news.length (news.map bcell) (by simp)
    (fun j u hu => by rw [Go.WideShapes.add_plain, Nat.zero_add, World.cell?_alloc_at _ _ _ _ rfl]; simpa using hu) (bcells_one _) hm (by unfold maxLen; omega) (by omega) (by simp; omega) (W.heap.size + 1) (by simp)
  refine ⟨_, w2, hr, ?_, ((Below.refl B W).alloc hB _).grown hg (by simp; omega) fun k hk' => (World.ownsRow.lt h k hk').1, NB.trans (NB.below ((Below.refl _ _).alloc (Nat.le_refl _) _)) (NB.grown (World.ownsRow.alloc h _) hg)⟩
  unfold BRow
  rw [List.map_append, List.length_append]
  exact ho
theorem app_s2 {W : World} {B : Nat} {v : Value} {ys : List UInt8} (s : ByteArray) (h : BRow W B v ys) (hB : B ≤ W.heap.size) (hl : ys.length + s.size ≤ 140737488355328) :
    ∃ v' w2, (Builtin.append_ #[52, 9] 52 #[v, .string s]).run Tryd.prog W = .ok v' w2 ∧ BRow w2 B v' (ys ++ s.data.toList) ∧ Below B W w2 ∧ NB W w2 := by
  obtain ⟨i0, hi, hz0, hz1, hz2⟩ := info_parts5 info_u8
  obtain ⟨v', w2, hr, ho, hg, _⟩ := Lib.run_append_own_string (P := Tryd.prog) W B 52 9 52 5 i0 Tryd.underlying52 Tryd.underlying9 hi hz0 hz1 hz2 v ys.length (ys.map bcell) h s (by unfold maxLen; omega) hl hB
  refine ⟨v', w2, hr, ?_, (Below.refl B W).grown hg (by omega) fun k hk' => (World.ownsRow.lt h k hk').1, NB.grown h hg⟩
  unfold BRow
  rw [List.map_append, List.length_append, ← Lib.size_eq, ← strCells_b]
  exact ho
end Go.Proofs.YtlnkddmpcicejaaDoor
/-
  appendHex, appendName, appendString, AppendBool: what they answer, and that they turn no block but rows of bytes.
-/
namespace Go.Proofs.YtlnkddmpcicejaaDoor
open Go.RowKit Go.Deep

structure KB (B : Nat) (w w' : World) : Prop where
  below : Below B w w'
  nb : NB w w'
theorem KB.size {B : Nat} {w w' : World} (h : KB B w w') : w.heap.size ≤ w'.heap.size := h.nb.size
theorem KB.refl (B : Nat) (w : World) : KB B w w := ⟨Below.refl _ _, NB.refl _⟩
theorem KB.trans {B : Nat} {a b c : World} (h : KB B a b) (k : KB B b c) : KB B a c := ⟨h.below.trans k.below, h.nb.trans k.nb⟩
theorem KB.drewL {B : Nat} {w w' : World} (h : KB B w.drew w') : KB B w w' := ⟨⟨h.below.os, h.below.tape, h.below.output, h.below.size, h.below.block⟩, ⟨h.nb.size, h.nb.block⟩⟩
theorem app_b3 {W : World} {B : Nat} {v : Value} {ys : List UInt8} (news : List UInt8) (h : BRow W B v ys) (hB : B ≤ W.heap.size) (hm : 0 < news.length) (hl : ys.length + news.length ≤ 140737488355328) (H : Nat) (hH : W.heap.size = H) :
    ∃ v' w2, (Builtin.append_ #[52, 52] 52 #[v, .slice (some ⟨H, 0, none⟩) news.length news.length]).run Tryd.prog (W.alloc (.cells (news.map bcell).toArray 5)) = .ok v' w2 ∧ BRow w2 B v' (ys ++ news) ∧ KB B W w2 := by
  obtain ⟨v', w2, a, b, c, d⟩ := app_b2 news h hB hm hl H hH
  exact ⟨v', w2, a, b, c, d⟩
theorem app_s3 {W : World} {B : Nat} {v : Value} {ys : List UInt8} (s : ByteArray) (h : BRow W B v ys) (hB : B ≤ W.heap.size) (hl : ys.length + s.size ≤ 140737488355328) :
    ∃ v' w2, (Builtin.append_ #[52, 9] 52 #[v, .string s]).run Tryd.prog W = .ok v' w2 ∧ BRow w2 B v' (ys ++ s.data.toList) ∧ KB B W w2 := by
  obtain ⟨v', w2, a, b, c, d⟩ := app_s2 s h hB hl
  exact ⟨v', w2, a, b, c, d⟩
set_option maxRecDepth 8000 in
set_option maxHeartbeats 4000000 in
theorem appendHex_kb (v : Value) (ys : List UInt8) (B : Nat) (c : UInt8) (w : World) (h : BRow w B v ys) (hB : B ≤ w.heap.size) (hl : ys.length + 2 ≤ 140737488355328) :
    Calls Tryd.prog 53 #[v, .int .u8 (c.toNat : Int)] w fun e w' => ∃ v', e = .returned v' ∧ BRow w' B v' (ys ++ hexT c) ∧ KB B w w' := by
  obtain ⟨a, ha⟩ : ∃ a, c.toNat / 16 = a := ⟨_, rfl⟩
  obtain ⟨b, hb⟩ : ∃ b, c.toNat % 16 = b := ⟨_, rfl⟩
  have b1 : a < hexS.size := by have := c.toNat_lt; show _ < 16; omega
  have b2 : b < hexS.size := by show _ < 16; omega
  have e : [hexS[a]'b1, hexS[b]'b2] = hexT c := by
    unfold hexT
    rw [ha, hb, ← hexS_at ⟨a, b1⟩, ← hexS_at ⟨b, b2⟩]
  rw [← e]
  obtain ⟨v', w2, hr, hb2, hw2⟩ := app_b3 (W := w.drew) [hexS[a]'b1, hexS[b]'b2] h hB (by simp) (by simpa using hl) _ rfl
  have q1 : (c.toNat : Int) / 16 = (a : Int) := by omega
  have q2 : (c.toNat : Int) % 16 = (b : Int) := by omega
  have q3 : bits BinOp.and IntKind.u8 (c.toNat : Int) 15 = (b : Int) := by rw [and15 ⟨c.toNat, c.toNat_lt⟩, ← hb]
  have g1 : (0 : Int) ≤ (a : Int) := by omega
  have g2 : (a : Int) < 16 := by have : a < 16 := b1; omega
  have g3 : (0 : Int) ≤ (b : Int) := by omega
  have g4 : (b : Int) < 16 := by have : b < 16 := b2; omega
  have HR := hide hr
  clear hr e ha hb
  go_enter Tryd.func53, Tryd.ntmps53
  go_wp2_with fail
  go_region_held3 (fun _ => True) (first | trivial | go_keep) ((first | (refine step_append_run _ (by rfl) _ _ _ _ (by rfl) _ _ (by rfl) (by rfl) _ _ HR.out ?_)))
  all_goals
    go_wp2_with fail
    go_ret
    exact ⟨_, rfl, hb2, KB.drewL hw2⟩
set_option maxRecDepth 8000 in
set_option maxHeartbeats 4000000 in
theorem appendName_kb (v : Value) (ys : List UInt8) (B : Nat) (s : ByteArray) (w : World) (h : BRow w B v ys) (hB : B ≤ w.heap.size) (hl : ys.length + 3 * s.size + 1 ≤ 140737488355328) :
    Calls Tryd.prog 41 #[v, .string s] w fun e w' => ∃ v', e = .returned v' ∧ BRow w' B v' (ys ++ nameT s.data.toList) ∧ KB B w w' := by
  obtain ⟨v1, w1, hr, hb1, hw1⟩ := app_b3 (W := w) [47] h hB (by simp) (by simp; omega) _ rfl
  have HR := hide hr
  have HB1 := hide hb1
  have HW1 := hide hw1
  have hsz : (s.size : Int) ≤ 9223372036854775807 := by omega
  have HLL := hide hl
  have HBB := hide hB
  clear hr hb1 hw1 hl
  go_enter Tryd.func41, Tryd.ntmps41
  go_wp2_with (at_builtin; refine Lib.wpList_append_run _ rfl _ _ _ _ rfl _ _ rfl rfl _ _ HR.out ?_)
  go_loopw [0, 11] (fun vt vi wr => ∃ k : Nat, vi = .int .i64 k ∧ Hid (k ≤ s.size ∧ BRow wr B vt (ys ++ 47 :: (s.data.toList.take k).flatMap nchT) ∧ KB B w wr ∧ B ≤ wr.heap.size)) (fun _ vi _ => s.size - (intOf vi).toNat)
  case atStart => exact ⟨0, rfl, hide ⟨Nat.zero_le _, by simpa using HB1.out, HW1.out, Nat.le_trans HBB.out HW1.out.size⟩⟩
  case round =>
    clear HB1 HW1 HR
    obtain ⟨k, rfl, HV⟩ := hrel
    obtain ⟨hk, hbr, hbel, hBr⟩ := HV.out
    clear HV
    have HBL := hide hbel
    have HBR := hide hbr
    have hk0 : (0 : Int) ≤ (k : Int) := by omega
    by_cases hlt : k < s.size
    case neg =>
      have hks : k = s.size := by omega
      have HF : Hid (BRow wr B u0 (ys ++ nameT s.data.toList)) := hide (by
        have := hbr
        rw [List.take_of_length_le (by rw [← Lib.size_eq]; omega)] at this
        exact this)
      clear hk hbr hbel hks
      go_wp2_with fail
      go_ret
      exact ⟨_, rfl, HF.out, HBL.out⟩
    case pos =>
      have hlen : (ys ++ 47 :: (s.data.toList.take k).flatMap nchT).length + 3 ≤ 140737488355328 := by
        have := flat_len (s.data.toList.take k)
        have := HLL.out
        simp only [List.length_append, List.length_cons, List.length_take] at *
        omega
      have C := hide (fun w => plain_any s[k].toNat w (UInt8.toNat_lt _))
      have hst := nameT_take s k hlt
      have HLN := hide hlen
      cases hp : isPl s[k].toNat
      · rw [hp] at C
        have hn : nchT s[k] = 35 :: hexT s[k] := by unfold nchT; rw [hp]; rfl
        rw [hn] at hst
        obtain ⟨v2, w2, hr2, hb2, hw2⟩ := app_b3 (W := wr.drew) [35] (B := B) hbr hBr (by simp) (by simp only [List.length_singleton]; omega) _ rfl
        have HR2 := hide hr2
        have CH := hide (appendHex_kb _ _ B s[k] w2 hb2 (Nat.le_trans hBr hw2.size) (by simp only [List.length_append, List.length_cons, List.length_nil] at hlen ⊢; omega))
        have HW2 := hide (KB.drewL hw2)
        have HST := hide hst
        clear hk hbr hbel hlen hst hp hn hr2 hb2 hw2
        go_wp2_with (go_at_call 52; refine (C.out _).mono ?_; rintro e w1 ⟨rfl, rfl⟩)
        rename_i k0
        have HKK := hide k0
        clear k0
        go_region_law ((first | (go_simp; go_at_call 53; refine CH.out.mono ?_; rintro e wy ⟨v3, rfl, hb3, hw3⟩; have HB3 := hide hb3; have HW3 := hide hw3; clear hb3 hw3) | (refine step_append_run _ (by rfl) _ _ _ _ rfl _ _ (by rfl) (by rfl) _ _ HR2.out ?_)))
        all_goals
          refine HKK.out _ _ ?_
          go_wp2_with fail
          go_roundw
          case rel => exact ⟨k + 1, by go_num, hide ⟨by omega, by rw [HST.out]; have := HB3.out; simpa using this, (HBL.out.trans HW2.out).trans HW3.out, Nat.le_trans (Nat.le_trans hBr HW2.out.size) HW3.out.size⟩⟩
          case measure => simp [intOf]; omega
      · rw [hp] at C
        have hn : nchT s[k] = [s[k]] := by unfold nchT; rw [hp]; rfl
        rw [hn] at hst
        obtain ⟨v2, w2, hr2, hb2, hw2⟩ := app_b3 (W := wr) [s[k]] (B := B) hbr hBr (by simp) (by simp only [List.length_singleton]; omega) _ rfl
        have HR2 := hide hr2
        have HB2 := hide hb2
        have HW2 := hide hw2
        have HST := hide hst
        clear hk hbr hbel hlen hst hp hn hr2 hb2 hw2
        go_wp2_with (first | (go_at_call 52; refine (C.out _).mono ?_; rintro e w1 ⟨rfl, rfl⟩) | (at_builtin; refine Lib.wpList_append_run _ rfl _ _ _ _ rfl _ _ rfl rfl _ _ HR2.out ?_))
        go_roundw
        case rel => exact ⟨k + 1, by go_num, hide ⟨by omega, by rw [HST.out]; have := HB2.out; simpa using this, HBL.out.trans HW2.out, Nat.le_trans hBr HW2.out.size⟩⟩
        case measure => simp [intOf]; omega
set_option maxRecDepth 8000 in
set_option maxHeartbeats 4000000 in
theorem appendHexes_kb (v : Value) (ys : List UInt8) (B : Nat) (s : ByteArray) (w : World) (h : BRow w B v ys) (hB : B ≤ w.heap.size) (hl : ys.length + 2 * s.size + 2 ≤ 140737488355328) (hr : readB s.data.toList = false) :
    Calls Tryd.prog 42 #[v, .string s] w fun e w' => ∃ v', e = .returned v' ∧ BRow w' B v' (ys ++ strT s.data.toList) ∧ KB B w w' := by
  have e0 : strT s.data.toList = 60 :: (s.data.toList.flatMap hexT ++ [62]) := by unfold strT; rw [hr]; rfl
  rw [e0]
  have CR := hide (readable_any s w (by omega))
  rw [hr] at CR
  obtain ⟨v1, w1, hr1, hb1, hw1⟩ := app_b3 (W := w) [60] h hB (by simp) (by simp; omega) _ rfl
  have HR := hide hr1
  have HB1 := hide hb1
  have HW1 := hide hw1
  have hsz : (s.size : Int) ≤ 9223372036854775807 := by omega
  have HLL := hide hl
  have HBB := hide hB
  clear hr1 hb1 hw1 hl hr e0
  go_enter Tryd.func42, Tryd.ntmps42
  go_wp2_with (first | (go_at_call 54; refine CR.out.mono ?_; rintro e wy ⟨rfl, hy⟩; subst wy) | (at_builtin; refine Lib.wpList_append_run _ rfl _ _ _ _ rfl _ _ rfl rfl _ _ HR.out ?_))
  go_loopw [0, 15] (fun vt vi wr => ∃ k : Nat, vi = .int .i64 k ∧ Hid (k ≤ s.size ∧ BRow wr B vt (ys ++ 60 :: (s.data.toList.take k).flatMap hexT) ∧ KB B w wr ∧ B ≤ wr.heap.size)) (fun _ vi _ => s.size - (intOf vi).toNat)
  case atStart => exact ⟨0, rfl, hide ⟨Nat.zero_le _, by simpa using HB1.out, HW1.out, Nat.le_trans HBB.out HW1.out.size⟩⟩
  case round =>
    clear HB1 HW1 HR CR
    obtain ⟨k, rfl, HV⟩ := hrel
    obtain ⟨hk, hbr, hbel, hBr⟩ := HV.out
    clear HV
    have HBL := hide hbel
    have hk0 : (0 : Int) ≤ (k : Int) := by omega
    have hlen : (ys ++ 60 :: (s.data.toList.take k).flatMap hexT).length = ys.length + 1 + 2 * k := by
      have := hex_len (s.data.toList.take k)
      have hz : s.data.toList.length = s.size := (Lib.size_eq s).symm
      simp only [List.length_append, List.length_cons, this, List.length_take, hz]
      omega
    by_cases hlt : k < s.size
    case neg =>
      have hks : k = s.size := by omega
      obtain ⟨v2, w2, hr2, hb2, hw2⟩ := app_b3 (W := wr) [62] hbr hBr (by simp) (by have := HLL.out; rw [hlen]; simp only [List.length_singleton]; omega) _ rfl
      have HR2 := hide hr2
      have HF : Hid (BRow w2 B v2 (ys ++ 60 :: (s.data.toList.flatMap hexT ++ [62]))) := hide (by
        have := hb2
        rw [List.take_of_length_le (by rw [← Lib.size_eq]; omega)] at this
        simpa using this)
      have HW2 := hide (hbel.trans hw2)
      clear hk hbr hbel hks hlen hr2 hb2 hw2
      go_wp2_with (at_builtin; refine Lib.wpList_append_run _ rfl _ _ _ _ rfl _ _ rfl rfl _ _ HR2.out ?_)
      go_ret
      exact ⟨_, rfl, HF.out, HW2.out⟩
    case pos =>
      have CH := hide (fun x (hx : BRow x B u0 (ys ++ 60 :: (s.data.toList.take k).flatMap hexT)) hz => appendHex_kb u0 _ B s[k] x hx hz (by have := HLL.out; rw [hlen]; omega))
      have HST := hide (flat_take hexT s k hlt)
      have HBR := hide hbr
      clear hk hbr hbel hlen
      go_wp2_with (go_at_call 53; refine (CH.out _ HBR.out hBr).mono ?_; rintro e wy ⟨v3, rfl, hb3, hw3⟩; have HB3 := hide hb3; have HW3 := hide hw3; clear hb3 hw3)
      go_roundw
      case rel => exact ⟨k + 1, by go_num, hide ⟨by omega, by rw [HST.out]; have := HB3.out; simpa using this, HBL.out.trans HW3.out, Nat.le_trans hBr HW3.out.size⟩⟩
      case measure => simp [intOf]; omega
set_option maxRecDepth 8000 in
set_option maxHeartbeats 4000000 in
theorem appendPlain_kb (v : Value) (ys : List UInt8) (B : Nat) (s : ByteArray) (w : World) (h : BRow w B v ys) (hB : B ≤ w.heap.size) (hl : ys.length + 2 * s.size + 2 ≤ 140737488355328) (hr : readB s.data.toList = true) :
    Calls Tryd.prog 42 #[v, .string s] w fun e w' => ∃ v', e = .returned v' ∧ BRow w' B v' (ys ++ strT s.data.toList) ∧ KB B w w' := by
  have e0 : strT s.data.toList = 40 :: (s.data.toList.flatMap schT ++ [41]) := by unfold strT; rw [hr]; rfl
  rw [e0]
  have CR := hide (readable_any s w (by omega))
  rw [hr] at CR
  obtain ⟨v1, w1, hr1, hb1, hw1⟩ := app_b3 (W := w) [40] h hB (by simp) (by simp; omega) _ rfl
  have HR := hide hr1
  have HB1 := hide hb1
  have HW1 := hide hw1
  have hsz : (s.size : Int) ≤ 9223372036854775807 := by omega
  have HLL := hide hl
  have HBB := hide hB
  clear hr1 hb1 hw1 hl hr e0
  go_enter Tryd.func42, Tryd.ntmps42
  go_wp2_with (first | (go_at_call 54; refine CR.out.mono ?_; rintro e wy ⟨rfl, hy⟩; subst wy) | (at_builtin; refine Lib.wpList_append_run _ rfl _ _ _ _ rfl _ _ rfl rfl _ _ HR.out ?_))
  go_loopw [0, 32] (fun vt vi wr => ∃ k : Nat, vi = .int .i64 k ∧ Hid (k ≤ s.size ∧ BRow wr B vt (ys ++ 40 :: (s.data.toList.take k).flatMap schT) ∧ KB B w wr ∧ B ≤ wr.heap.size)) (fun _ vi _ => s.size - (intOf vi).toNat)
  case atStart => exact ⟨0, rfl, hide ⟨Nat.zero_le _, by simpa using HB1.out, HW1.out, Nat.le_trans HBB.out HW1.out.size⟩⟩
  case round =>
    clear HB1 HW1 HR CR
    obtain ⟨k, rfl, HV⟩ := hrel
    obtain ⟨hk, hbr, hbel, hBr⟩ := HV.out
    clear HV
    have HBL := hide hbel
    have hk0 : (0 : Int) ≤ (k : Int) := by omega
    have hlen : (ys ++ 40 :: (s.data.toList.take k).flatMap schT).length ≤ ys.length + 1 + 2 * k := by
      have := sch_len (s.data.toList.take k)
      simp only [List.length_append, List.length_cons, List.length_take] at *
      omega
    by_cases hlt : k < s.size
    case neg =>
      have hks : k = s.size := by omega
      obtain ⟨v2, w2, hr2, hb2, hw2⟩ := app_b3 (W := wr) [41] hbr hBr (by simp) (by have := HLL.out; simp only [List.length_singleton]; omega) _ rfl
      have HR2 := hide hr2
      have HF : Hid (BRow w2 B v2 (ys ++ 40 :: (s.data.toList.flatMap schT ++ [41]))) := hide (by
        have := hb2
        rw [List.take_of_length_le (by rw [← Lib.size_eq]; omega)] at this
        simpa using this)
      have HW2 := hide (hbel.trans hw2)
      clear hk hbr hbel hks hlen hr2 hb2 hw2
      go_wp2_with (at_builtin; refine Lib.wpList_append_run _ rfl _ _ _ _ rfl _ _ rfl rfl _ _ HR2.out ?_)
      go_ret
      exact ⟨_, rfl, HF.out, HW2.out⟩
    case pos =>
      have HD := hide (show isSl s[k].toNat = (((s[k].toNat : Int) == 40) || ((s[k].toNat : Int) == 41) || ((s[k].toNat : Int) == 92)) from rfl)
      have HST := hide (flat_take schT s k hlt)
      cases hq : isSl s[k].toNat
      · obtain ⟨v2, w2, hr2, hb2, hw2⟩ := app_b3 (W := wr) [s[k]] (B := B) hbr hBr (by simp) (by have := HLL.out; simp only [List.length_singleton]; omega) _ rfl
        have HR2 := hide hr2
        have HB2 := hide hb2
        have HW2 := hide hw2
        have HN := hide (show schT s[k] = [s[k]] by unfold schT; rw [hq]; rfl)
        have hq' := HD.out
        rw [hq] at hq'
        have q1 : ((s[k].toNat : Int) == 40) = false := by revert hq'; cases ((s[k].toNat : Int) == 40) <;> simp
        have q2 : ((s[k].toNat : Int) == 41) = false := by revert hq'; cases ((s[k].toNat : Int) == 41) <;> simp
        have q3 : ((s[k].toNat : Int) == 92) = false := by revert hq'; cases ((s[k].toNat : Int) == 92) <;> simp
        clear hk hbr hbel hlen hr2 hb2 hw2 hq hq' HD
        go_wp2_with (at_builtin; refine Lib.wpList_append_run _ rfl _ _ _ _ rfl _ _ rfl rfl _ _ HR2.out ?_)
        go_roundw
        case rel => exact ⟨k + 1, by go_num, hide ⟨by omega, by rw [HST.out, HN.out]; have := HB2.out; simpa using this, HBL.out.trans HW2.out, Nat.le_trans hBr HW2.out.size⟩⟩
        case measure => simp [intOf]; omega
      · obtain ⟨v2, w2, hr2, hb2, hw2⟩ := app_b3 (W := wr) [92] (B := B) hbr hBr (by simp) (by have := HLL.out; simp only [List.length_singleton]; omega) _ rfl
        obtain ⟨v3, w3, hr3, hb3, hw3⟩ := app_b3 (W := w2) [s[k]] (B := B) hb2 (Nat.le_trans hBr hw2.size) (by simp) (by have := HLL.out; simp only [List.length_append, List.length_singleton] at hlen ⊢; omega) _ rfl
        have HR2 := hide hr2
        have HR3 := hide hr3
        have HB3 := hide hb3
        have HW3 := hide (hw2.trans hw3)
        have HN := hide (show schT s[k] = [92, s[k]] by unfold schT; rw [hq]; rfl)
        have hq' := HD.out
        rw [hq] at hq'
        clear hk hbr hbel hlen hr2 hb2 hw2 hr3 hb3 hw3 hq HD
        have hq2 : ((s[k].toNat : Int) == 40) = true ∨ (((s[k].toNat : Int) == 40) = false ∧ ((s[k].toNat : Int) == 41) = true) ∨ (((s[k].toNat : Int) == 40) = false ∧ ((s[k].toNat : Int) == 41) = false ∧ ((s[k].toNat : Int) == 92) = true) := by
          revert hq'
          cases ((s[k].toNat : Int) == 40) <;> cases ((s[k].toNat : Int) == 41) <;> cases ((s[k].toNat : Int) == 92) <;> simp
        clear hq'
        rcases hq2 with q1 | ⟨q1, q2⟩ | ⟨q1, q2, q3⟩
        all_goals
          go_wp2_with (first | (at_builtin; refine Lib.wpList_append_run _ rfl _ _ _ _ rfl _ _ rfl rfl _ _ HR2.out ?_) | (at_builtin; refine Lib.wpList_append_run _ rfl _ _ _ _ rfl _ _ rfl rfl _ _ HR3.out ?_))
          go_roundw
          case rel => exact ⟨k + 1, by go_num, hide ⟨by omega, by rw [HST.out, HN.out]; have := HB3.out; simpa using this, HBL.out.trans HW3.out, Nat.le_trans hBr HW3.out.size⟩⟩
          case measure => simp [intOf]; omega
theorem appendString_kb (v : Value) (ys : List UInt8) (B : Nat) (s : ByteArray) (w : World) (h : BRow w B v ys) (hB : B ≤ w.heap.size) (hl : ys.length + 2 * s.size + 2 ≤ 140737488355328) :
    Calls Tryd.prog 42 #[v, .string s] w fun e w' => ∃ v', e = .returned v' ∧ BRow w' B v' (ys ++ strT s.data.toList) ∧ KB B w w' := by
  cases hr : readB s.data.toList
  · exact appendHexes_kb v ys B s w h hB hl hr
  · exact appendPlain_kb v ys B s w h hB hl hr
theorem appendBool0_kb (v : Value) (ys : List UInt8) (B : Nat) (b : Bool) (w : World) (h : BRow w B v ys) (hB : B ≤ w.heap.size) (hl : ys.length + 5 ≤ 140737488355328) :
    Calls Tryd.prog 48 #[v, .bool b] w fun e w' => ∃ v', e = .returned v' ∧ BRow w' B v' (ys ++ boolT b) ∧ KB B w w' := by
  cases b
  · obtain ⟨v1, w1, hr, hb1, hw1⟩ := app_s3 (W := w) ⟨#[102, 97, 108, 115, 101]⟩ h hB hl
    have HR := hide hr
    clear hr
    go_enter Tryd.func48, Tryd.ntmps48
    go_wp2_with (at_builtin; refine Lib.wpList_append_run _ rfl _ _ _ _ rfl _ _ rfl rfl _ _ HR.out ?_)
    go_ret
    exact ⟨_, rfl, hb1, hw1⟩
  · obtain ⟨v1, w1, hr, hb1, hw1⟩ := app_s3 (W := w) ⟨#[116, 114, 117, 101]⟩ h hB (Nat.le_trans (by show _ + 4 ≤ _ + 5; omega) hl)
    have HR := hide hr
    clear hr
    go_enter Tryd.func48, Tryd.ntmps48
    go_wp2_with (at_builtin; refine Lib.wpList_append_run _ rfl _ _ _ _ rfl _ _ rfl rfl _ _ HR.out ?_)
    go_ret
    exact ⟨_, rfl, hb1, hw1⟩
theorem appendBool_kb (v : Value) (ys : List UInt8) (B : Nat) (b : Bool) (w : World) (h : BRow w B v ys) (hB : B ≤ w.heap.size) (hl : ys.length + 5 ≤ 140737488355328) :
    Calls Tryd.prog 38 #[v, .bool b] w fun e w' => ∃ v', e = .returned v' ∧ BRow w' B v' (ys ++ boolT b) ∧ KB B w w' := by
  have C := hide (appendBool0_kb v ys B b w h hB hl)
  clear h hB hl
  go_enter Tryd.func38, Tryd.ntmps38
  go_wp2_with (go_at_call 48; refine C.out.mono ?_; rintro e wy ⟨v3, rfl, hb3, hw3⟩)
  go_ret
  exact ⟨_, rfl, hb3, hw3⟩
end Go.Proofs.YtlnkddmpcicejaaDoor
/-
  strconv.AppendInt at base 10 onto a row of bytes, with the frame KB.
-/
namespace Go.Proofs.YtlnkddmpcicejaaDoor
open Go.RowKit Go.Deep Go.Lib

theorem NB.kept {w w' : World} (h : OthersKept 5 none w w') (hs : w.heap.size ≤ w'.heap.size) : NB w w' :=
  ⟨hs, fun k hk hn => by
    have e : w.heap[k]? = some w.heap[k] := Array.getElem?_eq_getElem hk
    rw [e]
    exact h k _ e (by simp) (fun c f he => hn c f (by rw [e, he]))⟩
theorem itoa_intT (i : Int) : itoa i = intT i := by
  unfold itoa intT
  split
  · rfl
  · rw [show i.toNat = i.natAbs by omega]
theorem appendInt_kb (v : Value) (ys : List UInt8) (B : Nat) (i : Int) (w : World) (h0 : -9223372036854775808 ≤ i) (h1 : i ≤ 9223372036854775807) (h : BRow w B v ys) (hB : B ≤ w.heap.size) (hl : ys.length + 21 ≤ 140737488355328)
    (ht : TabBelow Tryd.prog B w "internal/strconv.uint64pow10" .u64 pow10Tab) :
    Calls Tryd.prog 39 #[v, .int .i64 i, .int .i64 10] w fun e w' => ∃ v', e = .returned v' ∧ BRow w' B v' (ys ++ itoa i) ∧ KB B w w' := by
  refine (Any.strconv_AppendInt_10 laysM176 B ys.length i h0 h1 v (ys.map bcell) w h hB hl ht).mono ?_
  rintro e w' ⟨v', rfl, ho, hb, hk⟩
  refine ⟨v', rfl, ?_, ⟨hb, NB.kept hk hb.size⟩⟩
  unfold BRow
  rw [List.map_append, List.length_append]
  exact ho
end Go.Proofs.YtlnkddmpcicejaaDoor
