/-
  What cmap's wideTable answers.
-/
import Derived.Test.YthgpchjkeidilaaC11W
namespace Go.Proofs.Ythgpchjkeidilaa
open Go.RowKit Go.Deep
set_option linter.unusedVariables false

theorem take_ch (cs : List Ch) (k : Nat) (h : k < cs.length) : cs.take (k + 1) = cs.take k ++ [cs.getD k c0] := by
  rw [List.take_succ_eq_append_getElem h, List.getD_eq_getElem?_getD, List.getElem?_eq_getElem h]; rfl
theorem g3_take (cs : List Ch) (k : Nat) (h : k < cs.length) : (cs.take (k + 1)).flatMap g3 = (cs.take k).flatMap g3 ++ g3 (cs.getD k c0) := by
  rw [take_ch cs k h, List.flatMap_append]; simp
theorem g3_len (cs : List Ch) : (cs.flatMap g3).length = 12 * cs.length := by
  induction cs with
  | nil => rfl
  | cons x r ih => rw [List.flatMap_cons, List.length_append, ih, g3, fo_len]; simp; omega
def small (z : Int) : Prop := -4611686018427387904 ≤ z ∧ z ≤ 4611686018427387904
def SC (x : Ch) : Prop := small x.f ∧ small x.l ∧ small x.g
set_option maxHeartbeats 1000000 in
theorem wide_any (a : Option Addr) (cs : List Ch) (len cap : Nat) (w : World) (hl : cs.length = len) (hm : len ≤ 5000) (hr : ∀ i, i < cs.length → SC (cs.getD i c0)) (hL : CLst w a cs) :
    Calls Try.prog 10 #[.slice a len cap] w fun e w' => ∃ v', e = .returned v' ∧ BRow w' w.heap.size v' (wiT cs) ∧ KB w.heap.size w w' := by
  have hm' : (len : Int) ≤ 5000 := by omega
  have hm0 : (0 : Int) ≤ (len : Int) := by omega
  have HL := hide hL
  have HN := hide hl
  have HR := hide hr
  have HM := hide hm
  have CO := hide (opening_any 10 w (by omega) (by omega))
  obtain ⟨HD, hHD⟩ : ∃ HD, opT 10 ++ [0, 12, 0, 0] ++ fo [16 + 12 * (len : Int), 0, (len : Int)] = HD := ⟨_, rfl⟩
  have hHL : HD.length = 28 := by rw [← hHD]; simp [fo_len, opT, tw_len]
  have HWT := hide (show wiT cs = HD ++ cs.flatMap g3 by unfold wiT; rw [hl, hHD])
  have CF0 := hide (fun (v : Value) (W : World) (h : BRow W w.heap.size v (opT 10 ++ [0, 12, 0, 0])) (hB : w.heap.size ≤ W.heap.size) => afour_any w.heap.size v (opT 10 ++ [0, 12, 0, 0]) (some ⟨W.heap.size, 0, none⟩) [16 + 12 * (len : Int), 0, (len : Int)] 3 3 (W.alloc (.cells #[.int .i64 (16 + 12 * (len : Int)), .int .i64 0, .int .i64 (len : Int)] 3)) rfl (by omega) (by simp [opT, tw_len, fo_len]) (Nat.le_trans hB (by simp)) (World.ownsRow.alloc h _) (IL.blk (Blk.new _ _ _)) (by
    intro i hi
    match i, hi with
    | 0, _ => simp; omega
    | 1, _ => simp
    | 2, _ => simp; omega))
  rw [hHD] at CF0
  have HHL := hide hHL
  clear hL hl hr hHD hHL hm
  go_enter Try.func10, Try.ntmps10
  go_wp2_with fail
  refine CO.out.mono ?_
  rintro e w1 ⟨v1, rfl, hb1, hk1⟩
  obtain ⟨v2, w2, hr2, hb2, hk2⟩ := app_s3 ⟨#[0, 12, 0, 0]⟩ hb1 hk1.size (by simp [opT, tw_len, fo_len, ByteArray.size])
  have HR2 := hide hr2
  have HB2 := hide hb2
  have HK2 := hide (hk1.trans hk2)
  clear hb1 hk1 hr2 hb2 hk2
  go_wp2_with (at_builtin; refine Lib.wpList_append_run _ rfl _ _ _ _ rfl _ _ rfl rfl _ _ HR2.out ?_)
  refine (CF0.out _ _ HB2.out HK2.out.size).mono ?_
  rintro e w3 ⟨v3, rfl, hb3, hk3⟩
  have HB3 := hide hb3
  have HK3 := hide (HK2.out.trans (KB.trans ⟨(Below.refl _ _).alloc HK2.out.size _, NB.below ((Below.refl _ _).alloc (Nat.le_refl _) _)⟩ hk3))
  clear hb3 hk3
  go_wp2_with fail
  go_loopw [3, 19] (fun vt vi wr => ∃ (k : Nat), vi = .int .i64 k ∧ Hid (k ≤ len ∧ BRow wr w.heap.size vt (HD ++ (cs.take k).flatMap g3) ∧ KB w.heap.size w wr)) (fun _ vi _ => len - (intOf vi).toNat)
  case atStart => exact ⟨0, rfl, hide ⟨by omega, by simpa using HB3.out, HK3.out⟩⟩
  case round =>
    obtain ⟨k, rfl, HV⟩ := hrel
    obtain ⟨hk, hrow, hkb⟩ := HV.out
    have hk0 : (0 : Int) ≤ (k : Int) := by omega
    have HRW := hide hrow
    have HKB := hide hkb
    clear HV hrow hkb HB2 HB3
    by_cases hlt : k < len
    case neg =>
      have hlt' : ¬ (k : Int) < (len : Int) := by omega
      have E : Hid (cs.take k = cs) := hide (List.take_of_length_le (by have := HN.out; omega))
      go_wp2_with fail
      go_ret
      exact ⟨_, rfl, by have := HRW.out; rw [E.out, ← HWT.out] at this; exact this, HKB.out⟩
    have hlt' : (k : Int) < (len : Int) := by omega
    rcases HL.out with hz | ⟨b, o, rfl, hbl, hcell⟩
    · have := HN.out; rw [hz] at this; simp at this; omega
    obtain ⟨z0, z1, z2⟩ := hcell k (by have := HN.out; omega)
    rw [← HKB.out.below.cell (p := ⟨b, _, none⟩) hbl] at z0 z1 z2
    have zb : b < wr.heap.size := Nat.lt_of_lt_of_le hbl HKB.out.size
    have HT := hide (g3_take cs k (by have := HN.out; omega))
    obtain ⟨⟨x0, x1⟩, ⟨x2, x3⟩, x4, x5⟩ := HR.out k (by have := HN.out; omega)
    have hlen : (HD ++ (cs.take k).flatMap g3).length ≤ 100000 := by
      rw [List.length_append, g3_len, List.length_take, HHL.out]; have := HM.out; omega
    obtain ⟨x, hx⟩ : ∃ x, cs.getD k c0 = x := ⟨_, rfl⟩
    rw [hx] at z0 z1 z2 HT x0 x1 x2 x3 x4 x5
    obtain ⟨f, l, g⟩ := x
    simp only at z0 z1 z2 x0 x1 x2 x3 x4 x5
    obtain ⟨wb, hwb⟩ : ∃ wb, wr.alloc (.cells #[.int .i64 f, .int .i64 l, .int .i64 g] 31) = wb := ⟨_, rfl⟩
    have kb1 : KB w.heap.size wr wb := by rw [← hwb]; exact ⟨(Below.refl _ _).alloc HKB.out.size _, NB.below ((Below.refl _ _).alloc (Nat.le_refl _) _)⟩
    have hrw : BRow wb w.heap.size u3 (HD ++ (cs.take k).flatMap g3) := by rw [← hwb]; exact World.ownsRow.alloc HRW.out _
    have hs : wb.heap.size = wr.heap.size + 1 := by rw [← hwb]; simp
    have il : IL (wb.alloc (.cells #[.int .i64 f, .int .i64 l, .int .i64 g] 3)) (some ⟨wr.heap.size + 1, 0, none⟩) [f, l, g] := by
      have := IL.blk (zs := [f, l, g]) (Blk.new wb #[.int .i64 f, .int .i64 l, .int .i64 g] 3)
      rw [hs] at this
      exact this
    have kb2 : KB w.heap.size wb (wb.alloc (.cells #[.int .i64 f, .int .i64 l, .int .i64 g] 3)) := ⟨(Below.refl _ _).alloc (Nat.le_trans HKB.out.size kb1.size) _, NB.below ((Below.refl _ _).alloc (Nat.le_refl _) _)⟩
    have C := afour_any w.heap.size u3 (HD ++ (cs.take k).flatMap g3) (some ⟨wr.heap.size + 1, 0, none⟩) [f, l, g] 3 3 _ rfl (by omega) (by omega) (Nat.le_trans HKB.out.size (Nat.le_trans kb1.size kb2.size)) (World.ownsRow.alloc hrw _) il (by
      intro i hi
      match i, hi with
      | 0, _ => simp; omega
      | 1, _ => simp; omega
      | 2, _ => simp; omega)
    have HK4 := hide ((HKB.out.trans kb1).trans kb2)
    rw [← hwb] at C HK4
    have C := hide C
    clear hcell hx hlen hwb kb1 kb2 hrw hs il
    go_wp2_with fail
    refine C.out.mono ?_
    rintro e w4 ⟨v4, rfl, hb4, hk4⟩
    have HB4 := hide hb4
    have HK5 := hide (HK4.out.trans hk4)
    clear hb4 hk4
    go_wp2_with fail
    go_roundw
    case rel => exact ⟨k + 1, by go_num, hide ⟨by omega, by rw [HT.out, ← List.append_assoc]; exact HB4.out, HK5.out⟩⟩
    case measure => simp [intOf]; omega
end Go.Proofs.Ythgpchjkeidilaa
