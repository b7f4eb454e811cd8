/-
  What the reference's Words (chapter 4) answers.
-/
import Derived.Test.YtncmkiejamkklaaDoorU4Wrd
import Derived.Test.YtncmkiejamkklaaDoorU4RCls
namespace Go.Proofs.YtncmkiejamkklaaDoor
open Go.RowKit

theorem info_two : (Tryd.prog.info? 45).map (fun i => (i.zero, i.size, i.bytes)) = some (some (.agg #[.int .i64 0, .int .i64 0]), 2, 16) := by kernel_rfl
def PRow (w : World) (B : Nat) (v : Value) (ws : List (Nat × Nat)) : Prop := w.ownsRow B 45 2 v ws.length ((flat ws).map (Value.int .i64))
theorem PRow.nil (w : World) (B : Nat) : PRow w B (.slice none 0 0) [] := World.ownsRow_nil _ _ _ _
def opI : Option Nat → Int
  | none => -1
  | some f => (f : Int)

set_option maxRecDepth 100000 in
set_option maxHeartbeats 2000000 in
theorem rwords_core (a : Option Addr) (len cap : Nat) (zs : List Int) (w : World) (hl : zs.length = len) (h4 : len ≤ 4096) (hL : Lst w a zs) (WS : List (Nat × Nat)) (hW : wrds zs = WS) :
    Calls Tryd.prog 21 #[.slice a len cap] w fun e w' => ∃ v, e = .returned v ∧ PRow w' w.heap.size v WS ∧ Below w.heap.size w w' := by
  have HL := hide hL
  have Hl := hide hl
  have H4 := hide h4
  have h5 : (len : Int) ≤ 4096 := by omega
  have HW := hide hW
  obtain ⟨i0, hi, hz0, hz1, hz2⟩ := info_parts info_two
  have HI := hide hi
  have HI0 := hide hz0
  have HI1 := hide hz1
  have HI2 := hide hz2
  clear hi hz0 hz1 hz2 hL hl h4 hW
  go_enter Tryd.func21, Tryd.ntmps21
  go_wp2_with fail
  go_loopw [3, 4, 5] (fun vt vf vi wr => ∃ (k : Nat) (s : WSt), vi = .int .i64 k ∧ vf = .int .i64 (opI s.2) ∧ Hid (k ≤ len + 1 ∧ wst (blk zs) k = s ∧ s.1.length ≤ k ∧ PRow wr w.heap.size vt s.1 ∧ Below w.heap.size w wr)) (fun _ _ vi _ => len + 1 - (intOf vi).toNat)
  case atStart => exact ⟨0, ([], none), rfl, rfl, hide ⟨by omega, rfl, by simp, PRow.nil _ _, Below.refl _ _⟩⟩
  case round =>
    obtain ⟨k, ⟨cl, o⟩, rfl, rfl, HK⟩ := hrel
    obtain ⟨k1, k2, k3, k4, k5⟩ := HK.out
    clear HK
    simp only at k3 k4 ⊢
    have K3 := hide k3
    have K4 := hide k4
    have K5 := hide k5
    by_cases hle : k ≤ len
    · have hle' : (k : Int) ≤ (len : Int) := by omega
      have kb : (k : Int) ≤ 4096 := by omega
      by_cases hlt : k < len
      · have hlt' : (k : Int) < (len : Int) := by omega
        have hne : ((k : Int) == (len : Int)) = false := by rw [beq_eq_false_iff_ne]; omega
        have hl := Hl.out
        rcases HL.out with hz | ⟨b, off, rfl, hb, hcell⟩
        · rw [hz] at hl; simp at hl; omega
        have hc : wr.cell? ⟨b, off + k, none⟩ = some (.int .i64 (zs.getD k 0)) := by
          rw [k5.cell (p := ⟨b, off + k, none⟩) hb]; exact hcell k (by omega)
        have hbl : blk zs k = (clsV (zs.getD k 0) == 1) := by unfold blk isB; rw [decide_eq_false (by omega)]; simp
        have hnx : wst (blk zs) (k + 1) = wstep (clsV (zs.getD k 0) == 1) k (cl, o) := by rw [wst, k2, hbl]
        generalize zs.getD k 0 = z at *
        cases hB : (clsV z == 1)
        · rw [hB] at hnx
          cases o with
          | none =>
            rw [wfin_step_out] at hnx
            have HNX := hide hnx
            clear hnx hbl k3 k4 k5 hcell hl k2
            unfold opI
            go_wp2_with (go_at_call 17; refine (rclass_any _ _).mono ?_; rintro e w1 ⟨rfl, rfl⟩)
            go_roundw
            case rel => exact ⟨k + 1, (cl, some k), by go_num, rfl, hide ⟨by omega, HNX.out, by have := K3.out; simp only; omega, K4.out, K5.out⟩⟩
            case measure => simp [intOf] <;> omega
          | some f =>
            rw [wfin_step_in] at hnx
            have HNX := hide hnx
            clear hnx hbl k3 k4 k5 hcell hl k2
            unfold opI
            go_wp2_with (go_at_call 17; refine (rclass_any _ _).mono ?_; rintro e w1 ⟨rfl, rfl⟩)
            go_roundw
            case rel => exact ⟨k + 1, (cl, some f), by go_num, rfl, hide ⟨by omega, HNX.out, by have := K3.out; simp only; omega, K4.out, K5.out⟩⟩
            case measure => simp [intOf] <;> omega
        · rw [hB] at hnx
          cases o with
          | none =>
            have HNX := hide (show wst (blk zs) (k + 1) = (cl, none) by rw [hnx]; simp [wstep])
            clear hnx hbl k3 k4 k5 hcell hl k2
            unfold opI
            go_wp2_with (go_at_call 17; refine (rclass_any _ _).mono ?_; rintro e w1 ⟨rfl, rfl⟩)
            go_roundw
            case rel => exact ⟨k + 1, (cl, none), by go_num, rfl, hide ⟨by omega, HNX.out, by have := K3.out; simp only; omega, K4.out, K5.out⟩⟩
            case measure => simp [intOf] <;> omega
          | some f =>
            have HNX := hide (show wst (blk zs) (k + 1) = (cl ++ [(f, k)], none) by rw [hnx]; simp [wstep])
            clear hnx hbl k3 k4 k5 hcell hl k2
            unfold opI
            go_wp2_with (first
              | (go_at_call 17; refine (rclass_any _ _).mono ?_; rintro e w1 ⟨rfl, rfl⟩)
              | (at_builtin; refine wpList_append_own _ rfl _ _ 41 rfl w.heap.size 45 i0 (.agg #[.int .i64 0, .int .i64 0]) 2 16 Tryd.underlying41 HI.out HI0.out HI1.out HI2.out rfl (by decide) _ _ _ rfl (World.ownsRow.alloc K4.out _) ⟨_, 0, none⟩ 1 1 [.int .i64 (f : Int), .int .i64 (k : Int)] rfl rfl ?d1 ?d2 ?d3 ?d4 ?d5 ?_))
            case d1 =>
              intro j u hj
              match j, hj with
              | 0, hj => simp at hj; subst hj; simp [Addr.add]
              | 1, hj => simp at hj; subst hj; simp [Addr.add]
            case d2 => intro u hu; simp at hu; rcases hu with rfl | rfl <;> rfl
            case d3 => have := K3.out; unfold maxLen; omega
            case d4 => have := K3.out; omega
            case d5 => simp; have := K5.out.size; omega
            intro v2 w2 hown2 hgrow2 _
            have HB2 := hide (show Below w.heap.size w w2 from (K5.out.alloc K5.out.size _).grown hgrow2 (by simp; have := K5.out.size; omega) (fun k hk => (World.ownsRow.lt K4.out k hk).1))
            have HS2 := hide (show PRow w2 w.heap.size v2 (cl ++ [(f, k)]) by
              unfold PRow
              rw [flat_snoc, List.map_append, List.length_append]
              exact hown2)
            clear hown2 hgrow2
            go_wp2
            go_roundw
            case rel => exact ⟨k + 1, (cl ++ [(f, k)], none), by go_num, rfl, hide ⟨by omega, HNX.out, by have := K3.out; simp; omega, HS2.out, HB2.out⟩⟩
            case measure => simp [intOf] <;> omega
      · obtain rfl : k = len := by omega
        have heq : ((k : Int) == (k : Int)) = true := by simp
        have hbl : blk zs k = true := by unfold blk; rw [decide_eq_true (by have := Hl.out; omega)]; simp
        have hnx : wst (blk zs) (k + 1) = wstep true k (cl, o) := by rw [wst, k2, hbl]
        cases o with
        | none =>
          have HNX := hide (show wst (blk zs) (k + 1) = (cl, none) by rw [hnx]; simp [wstep])
          clear hnx hbl k3 k4 k5 k2
          unfold opI
          go_wp2
          go_roundw
          case rel => exact ⟨k + 1, (cl, none), by go_num, rfl, hide ⟨by omega, HNX.out, by have := K3.out; simp only; omega, K4.out, K5.out⟩⟩
          case measure => simp [intOf] <;> omega
        | some f =>
          have HNX := hide (show wst (blk zs) (k + 1) = (cl ++ [(f, k)], none) by rw [hnx]; simp [wstep])
          clear hnx hbl k3 k4 k5 k2
          unfold opI
          go_wp2_with (first
            | (go_at_call 17; refine (rclass_any _ _).mono ?_; rintro e w1 ⟨rfl, rfl⟩)
            | (at_builtin; refine wpList_append_own _ rfl _ _ 41 rfl w.heap.size 45 i0 (.agg #[.int .i64 0, .int .i64 0]) 2 16 Tryd.underlying41 HI.out HI0.out HI1.out HI2.out rfl (by decide) _ _ _ rfl (World.ownsRow.alloc K4.out _) ⟨_, 0, none⟩ 1 1 [.int .i64 (f : Int), .int .i64 (k : Int)] rfl rfl ?d1 ?d2 ?d3 ?d4 ?d5 ?_))
          case d1 =>
            intro j u hj
            match j, hj with
            | 0, hj => simp at hj; subst hj; simp [Addr.add]
            | 1, hj => simp at hj; subst hj; simp [Addr.add]
          case d2 => intro u hu; simp at hu; rcases hu with rfl | rfl <;> rfl
          case d3 => have := K3.out; unfold maxLen; omega
          case d4 => have := K3.out; omega
          case d5 => simp; have := K5.out.size; omega
          intro v2 w2 hown2 hgrow2 _
          have HB2 := hide (show Below w.heap.size w w2 from (K5.out.alloc K5.out.size _).grown hgrow2 (by simp; have := K5.out.size; omega) (fun k hk => (World.ownsRow.lt K4.out k hk).1))
          have HS2 := hide (show PRow w2 w.heap.size v2 (cl ++ [(f, k)]) by
            unfold PRow
            rw [flat_snoc, List.map_append, List.length_append]
            exact hown2)
          clear hown2 hgrow2
          go_wp2
          go_roundw
          case rel => exact ⟨k + 1, (cl ++ [(f, k)], none), by go_num, rfl, hide ⟨by omega, HNX.out, by have := K3.out; simp; omega, HS2.out, HB2.out⟩⟩
          case measure => simp [intOf] <;> omega
    · have hle' : ¬ (k : Int) ≤ (len : Int) := by omega
      obtain rfl : k = len + 1 := by omega
      obtain rfl : cl = WS := by rw [← HW.out]; unfold wrds; rw [Hl.out, k2]
      clear k2 k3 k4 k5
      go_wp2
      go_ret
      exact ⟨_, rfl, K4.out, K5.out⟩
end Go.Proofs.YtncmkiejamkklaaDoor
