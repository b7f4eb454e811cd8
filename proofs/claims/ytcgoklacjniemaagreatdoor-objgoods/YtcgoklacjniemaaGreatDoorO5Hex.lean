/-
  Bytes appended to a row that the call owns; what the landed appendHex answers.
-/
import Derived.Test.YtcgoklacjniemaaGreatDoorO5Sm
import Derived.Test.YtcgoklacjniemaaGreatDoorO5App
import Derived.Deep.RegionHeld3
import Derived.Deep.RegionLaw
namespace Go.Proofs.YtcgoklacjniemaaGreatDoor
open Go.RowKit Go.Deep

theorem bcells_one (l : List UInt8) : ∀ u ∈ l.map bcell, u.oneCell' = true := fun u hu => by
  obtain ⟨_, _, rfl⟩ := List.mem_map.1 hu
  rfl
theorem app_b {W : World} {B : Nat} {v : Value} {ys : List UInt8} (news : List UInt8) (h : BRow W B v ys) (hB : B ≤ W.heap.size) (hm : 0 < news.length) (hl : ys.length + news.length ≤ 140737488355328) (H : Nat) (hH : W.heap.size = H) :
    ∃ v' w2, (Builtin.append_ #[45, 45] 45 #[v, .slice (some ⟨H, 0, none⟩) news.length news.length]).run Tryz.prog (W.alloc (.cells (news.map bcell).toArray 5)) = .ok v' w2 ∧
      BRow w2 B v' (ys ++ news) ∧ Below B W w2 := by
  obtain ⟨i0, hi, hz0, hz1, hz2⟩ := info_parts5 info_u8
  subst hH
  obtain ⟨g, cap, w2, hr, ho, hg, _, _⟩ := run_append_lies (P := Tryz.prog) (W.alloc (.cells (news.map bcell).toArray 5)) 45 45 B 5 i0 _ 1 1 Tryz.underlying45 hi hz0 hz1 hz2 rfl (by decide) v ys.length (ys.map bcell) (World.ownsRow.alloc h _) ⟨W.heap.size, 0, none⟩ news.length news.length (news.map bcell) (by simp)
    (fun j u hu => by rw [Go.WideShapes.add_plain, Nat.zero_add, World.cell?_alloc_at _ _ _ _ rfl]; simpa using hu) (bcells_one _) hm (by unfold maxLen; omega) (by omega) (by simp; omega) (W.heap.size + 1) (by simp)
  refine ⟨_, w2, hr, ?_, ((Below.refl B W).alloc hB _).grown hg (by simp; omega) fun k hk' => (World.ownsRow.lt h k hk').1⟩
  unfold BRow
  rw [List.map_append, List.length_append]
  exact ho
def upD (n : Nat) : UInt8 := UInt8.ofNat (if n < 10 then 48 + n else 55 + n)
def hexT (c : UInt8) : List UInt8 := [upD (c.toNat / 16), upD (c.toNat % 16)]
abbrev hexS : ByteArray := ⟨#[48, 49, 50, 51, 52, 53, 54, 55, 56, 57, 65, 66, 67, 68, 69, 70]⟩
theorem hexS_at : ∀ n : Fin 16, hexS[n.val]'(by have := n.isLt; exact this) = upD n.val := by decide
theorem and15 : ∀ n : Fin 256, bits BinOp.and IntKind.u8 (n.val : Int) 15 = ((n.val % 16 : Nat) : Int) := by decide +kernel
set_option maxRecDepth 8000 in
set_option maxHeartbeats 4000000 in
theorem appendHex_any (v : Value) (ys : List UInt8) (B : Nat) (c : UInt8) (w : World) (h : BRow w B v ys) (hB : B ≤ w.heap.size) (hl : ys.length + 2 ≤ 140737488355328) :
    Calls Tryz.prog 73 #[v, .int .u8 (c.toNat : Int)] w fun e w' => ∃ v', e = .returned v' ∧ BRow w' B v' (ys ++ hexT c) ∧ Below B w w' := by
  obtain ⟨a, ha⟩ : ∃ a, c.toNat / 16 = a := ⟨_, rfl⟩
  obtain ⟨b, hb⟩ : ∃ b, c.toNat % 16 = b := ⟨_, rfl⟩
  have b1 : a < hexS.size := by have := c.toNat_lt; show _ < 16; omega
  have b2 : b < hexS.size := by show _ < 16; omega
  have e : [hexS[a]'b1, hexS[b]'b2] = hexT c := by
    unfold hexT
    rw [ha, hb, ← hexS_at ⟨a, b1⟩, ← hexS_at ⟨b, b2⟩]
  rw [← e]
  obtain ⟨v', w2, hr, hb2, hw2⟩ := app_b (W := w.drew) [hexS[a]'b1, hexS[b]'b2] h hB (by simp) (by simpa using hl) _ rfl
  have q1 : (c.toNat : Int) / 16 = (a : Int) := by omega
  have q2 : (c.toNat : Int) % 16 = (b : Int) := by omega
  have q3 : bits BinOp.and IntKind.u8 (c.toNat : Int) 15 = (b : Int) := by rw [and15 ⟨c.toNat, c.toNat_lt⟩, ← hb]
  have g1 : (0 : Int) ≤ (a : Int) := by omega
  have g2 : (a : Int) < 16 := by have : a < 16 := b1; omega
  have g3 : (0 : Int) ≤ (b : Int) := by omega
  have g4 : (b : Int) < 16 := by have : b < 16 := b2; omega
  have HR := hide hr
  clear hr e ha hb
  go_enter Tryz.func73, Tryz.ntmps73
  go_wp2_with fail
  go_region_held3 (fun _ => True) (first | trivial | go_keep) ((first | (refine step_append_run _ (by rfl) _ _ _ _ (by rfl) _ _ (by rfl) (by rfl) _ _ HR.out ?_)))
  all_goals
    go_wp2_with fail
    go_ret
    exact ⟨_, rfl, hb2, ⟨hw2.os, hw2.tape, hw2.output, hw2.size, hw2.block⟩⟩
/- a name's text -/
def nchT (c : UInt8) : List UInt8 := if isPl c.toNat then [c] else 35 :: hexT c
def nameT (l : List UInt8) : List UInt8 := 47 :: l.flatMap nchT
theorem nchT_len (c : UInt8) : (nchT c).length ≤ 3 := by unfold nchT hexT; split <;> simp
theorem nameT_take (s : ByteArray) (k : Nat) (h : k < s.size) : (s.data.toList.take (k + 1)).flatMap nchT = (s.data.toList.take k).flatMap nchT ++ nchT s[k] := by
  rw [take_at s k h, List.flatMap_append]
  simp
theorem flat_len (l : List UInt8) : (l.flatMap nchT).length ≤ 3 * l.length := by
  induction l with
  | nil => simp
  | cons c l ih => have := nchT_len c; simp only [List.flatMap_cons, List.length_append, List.length_cons]; omega
set_option maxRecDepth 8000 in
set_option maxHeartbeats 4000000 in
theorem appendName_any (v : Value) (ys : List UInt8) (B : Nat) (s : ByteArray) (w : World) (h : BRow w B v ys) (hB : B ≤ w.heap.size) (hl : ys.length + 3 * s.size + 1 ≤ 140737488355328) :
    Calls Tryz.prog 41 #[v, .string s] w fun e w' => ∃ v', e = .returned v' ∧ BRow w' B v' (ys ++ nameT s.data.toList) ∧ Below B w w' := by
  obtain ⟨v1, w1, hr, hb1, hw1⟩ := app_b (W := w) [47] h hB (by simp) (by simp; omega) _ rfl
  have HR := hide hr
  have HB1 := hide hb1
  have HW1 := hide hw1
  have hsz : (s.size : Int) ≤ 9223372036854775807 := by omega
  have HLL := hide hl
  have HBB := hide hB
  clear hr hb1 hw1 hl
  go_enter Tryz.func41, Tryz.ntmps41
  go_wp2_with (at_builtin; refine Lib.wpList_append_run _ rfl _ _ _ _ rfl _ _ rfl rfl _ _ HR.out ?_)
  go_loopw [0, 11] (fun vt vi wr => ∃ k : Nat, vi = .int .i64 k ∧ Hid (k ≤ s.size ∧ BRow wr B vt (ys ++ 47 :: (s.data.toList.take k).flatMap nchT) ∧ Below B w wr ∧ B ≤ wr.heap.size)) (fun _ vi _ => s.size - (intOf vi).toNat)
  case atStart => exact ⟨0, rfl, hide ⟨Nat.zero_le _, by simpa using HB1.out, HW1.out, Nat.le_trans HBB.out HW1.out.size⟩⟩
  case round =>
    clear HB1 HW1 HR
    obtain ⟨k, rfl, HV⟩ := hrel
    obtain ⟨hk, hbr, hbel, hBr⟩ := HV.out
    clear HV
    have HBL := hide hbel
    have HBR := hide hbr
    have hk0 : (0 : Int) ≤ (k : Int) := by omega
    by_cases hlt : k < s.size
    case neg =>
      have hks : k = s.size := by omega
      have HF : Hid (BRow wr B u0 (ys ++ nameT s.data.toList)) := hide (by
        have := hbr
        rw [List.take_of_length_le (by rw [← Lib.size_eq]; omega)] at this
        exact this)
      clear hk hbr hbel hks
      go_wp2_with fail
      go_ret
      exact ⟨_, rfl, HF.out, HBL.out⟩
    case pos =>
      have hlen : (ys ++ 47 :: (s.data.toList.take k).flatMap nchT).length + 3 ≤ 140737488355328 := by
        have := flat_len (s.data.toList.take k)
        have := HLL.out
        simp only [List.length_append, List.length_cons, List.length_take] at *
        omega
      have C := hide (fun w => plain_any s[k].toNat w (UInt8.toNat_lt _))
      have hst := nameT_take s k hlt
      have HLN := hide hlen
      cases hp : isPl s[k].toNat
      · rw [hp] at C
        have hn : nchT s[k] = 35 :: hexT s[k] := by unfold nchT; rw [hp]; rfl
        rw [hn] at hst
        obtain ⟨v2, w2, hr2, hb2, hw2⟩ := app_b (W := wr.drew) [35] (B := B) hbr hBr (by simp) (by simp only [List.length_singleton]; omega) _ rfl
        have HR2 := hide hr2
        have CH := hide (appendHex_any _ _ B s[k] w2 hb2 (Nat.le_trans hBr hw2.size) (by simp only [List.length_append, List.length_cons, List.length_nil] at hlen ⊢; omega))
        have HW2 := hide (show Below B wr w2 from ⟨hw2.os, hw2.tape, hw2.output, hw2.size, hw2.block⟩)
        have HST := hide hst
        clear hk hbr hbel hlen hst hp hn hr2 hb2 hw2
        go_wp2_with (go_at_call 72; refine (C.out _).mono ?_; rintro e w1 ⟨rfl, rfl⟩)
        rename_i k0
        have HKK := hide k0
        clear k0
        go_region_law ((first | (go_simp; go_at_call 73; refine CH.out.mono ?_; rintro e wy ⟨v3, rfl, hb3, hw3⟩; have HB3 := hide hb3; have HW3 := hide hw3; clear hb3 hw3) | (refine step_append_run _ (by rfl) _ _ _ _ rfl _ _ (by rfl) (by rfl) _ _ HR2.out ?_)))
        all_goals
          refine HKK.out _ _ ?_
          go_wp2_with fail
          go_roundw
          case rel => exact ⟨k + 1, by go_num, hide ⟨by omega, by rw [HST.out]; have := HB3.out; simpa using this, (HBL.out.trans HW2.out).trans HW3.out, Nat.le_trans (Nat.le_trans hBr HW2.out.size) HW3.out.size⟩⟩
          case measure => simp [intOf]; omega
      · rw [hp] at C
        have hn : nchT s[k] = [s[k]] := by unfold nchT; rw [hp]; rfl
        rw [hn] at hst
        obtain ⟨v2, w2, hr2, hb2, hw2⟩ := app_b (W := wr) [s[k]] (B := B) hbr hBr (by simp) (by simp only [List.length_singleton]; omega) _ rfl
        have HR2 := hide hr2
        have HB2 := hide hb2
        have HW2 := hide hw2
        have HST := hide hst
        clear hk hbr hbel hlen hst hp hn hr2 hb2 hw2
        go_wp2_with (first | (go_at_call 72; refine (C.out _).mono ?_; rintro e w1 ⟨rfl, rfl⟩) | (at_builtin; refine Lib.wpList_append_run _ rfl _ _ _ _ rfl _ _ rfl rfl _ _ HR2.out ?_))
        go_roundw
        case rel => exact ⟨k + 1, by go_num, hide ⟨by omega, by rw [HST.out]; have := HB2.out; simpa using this, HBL.out.trans HW2.out, Nat.le_trans hBr HW2.out.size⟩⟩
        case measure => simp [intOf]; omega
end Go.Proofs.YtcgoklacjniemaaGreatDoor
