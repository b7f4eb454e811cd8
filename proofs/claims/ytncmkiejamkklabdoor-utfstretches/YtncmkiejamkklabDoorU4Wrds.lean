/-
  What utf.Words answers.
-/
import Derived.Test.YtncmkiejamkklabDoorU4Wrd
namespace Go.Proofs.YtncmkiejamkklabDoor
open Go.RowKit

theorem info_span : (Tryd.prog.info? 27).map (fun i => (i.zero, i.size, i.bytes)) = some (some (.agg #[.int .i64 0, .int .i64 0]), 2, 16) := by kernel_rfl
def SRow (w : World) (B : Nat) (v : Value) (ws : List (Nat × Nat)) : Prop := w.ownsRow B 27 2 v ws.length ((flat ws).map (Value.int .i64))
theorem SRow.nil (w : World) (B : Nat) : SRow w B (.slice none 0 0) [] := World.ownsRow_nil _ _ _ _
theorem SRow.shape {w : World} {B : Nat} {v : Value} {ws : List (Nat × Nat)} (h : SRow w B v ws) (h0 : 0 < ws.length) : ∃ g cap, v = .slice (some ⟨g, 0, none⟩) ws.length cap ∧ B ≤ g ∧ g < w.heap.size ∧ ws.length ≤ cap ∧ cap ≤ 9223372036854775807 := by
  have h' := h
  obtain ⟨_, ⟨_, h1⟩ | ⟨g, cap, cur, hv, hg, hh, hc, hm, _⟩⟩ := h'
  · omega
  · rw [hv] at h
    exact ⟨g, cap, hv, hg, (World.ownsRow.lt h g rfl).2, hc, by unfold maxLen at hm; exact hm⟩
theorem SRow.cell {w : World} {B g n cap : Nat} {ws : List (Nat × Nat)} (h : SRow w B (.slice (some ⟨g, 0, none⟩) n cap) ws) (hn : ws.length = n) (j : Nat) (hj : j < n * 2) : w.cell? ⟨g, j, none⟩ = some (.int .i64 ((flat ws).getD j 0)) ∧ w.frozen? ⟨g, j, none⟩ = false := by
  subst hn
  refine ⟨?_, World.ownsRow.frozenAt h j⟩
  have hl : j < (flat ws).length := by rw [flat_len]; exact hj
  rw [World.ownsRow.cellAt h j hj, List.getElem?_map, List.getElem?_eq_getElem hl, List.getD_eq_getElem?_getD, List.getElem?_eq_getElem hl]
  rfl
theorem SRow.stored {w : World} {B g n cap : Nat} {ws : List (Nat × Nat)} (a b c : Nat) (h : SRow w B (.slice (some ⟨g, 0, none⟩) n cap) (ws ++ [(a, b)])) (hn : (ws ++ [(a, b)]).length = n) : SRow (w.setCell ⟨g, ws.length * 2 + 1, none⟩ (.int .i64 (c : Int))) B (.slice (some ⟨g, 0, none⟩) n cap) (ws ++ [(a, c)]) := by
  subst hn
  have := (World.ownsRow.stored h (ws.length * 2 + 1) (.int .i64 (c : Int))).1
  unfold SRow
  rw [← flat_set ws a b c, List.map_set]
  have e : (ws ++ [(a, c)]).length = (ws ++ [(a, b)]).length := by simp
  rw [e]
  exact this

set_option maxRecDepth 100000 in
set_option maxHeartbeats 2000000 in
theorem words_core (a : Option Addr) (len cap : Nat) (zs : List Int) (w : World) (hl : zs.length = len) (h4 : len ≤ 4096) (hL : Lst w a zs) (WS : List (Nat × Nat)) (hW : wrds zs = WS) :
    Calls Tryd.prog 5 #[.slice a len cap] w fun e w' => ∃ v, e = .returned v ∧ SRow w' w.heap.size v WS ∧ Below w.heap.size w w' := by
  have HL := hide hL
  have Hl := hide hl
  have H4 := hide h4
  have h5 : (len : Int) ≤ 4096 := by omega
  have HW := hide hW
  obtain ⟨i0, hi, hz0, hz1, hz2⟩ := info_parts info_span
  have HI := hide hi
  have HI0 := hide hz0
  have HI1 := hide hz1
  have HI2 := hide hz2
  clear hi hz0 hz1 hz2 hL hl h4 hW
  go_enter Tryd.func5, Tryd.ntmps5
  go_wp2_with fail
  go_loopw [3, 4, 10] (fun vt vin vi wr => ∃ (k : Nat) (s : WSt), vi = .int .i64 k ∧ vin = .bool s.2.isSome ∧ Hid (k ≤ len ∧ wst (blk zs) k = s ∧ s.1.length ≤ k ∧ (s.2.isSome = true → s.1.length < k) ∧ SRow wr w.heap.size vt (wfin k s) ∧ Below w.heap.size w wr)) (fun _ _ vi _ => len - (intOf vi).toNat)
  case atStart => exact ⟨0, ([], none), rfl, rfl, hide ⟨by omega, rfl, by simp, by simp, SRow.nil _ _, Below.refl _ _⟩⟩
  case round =>
    obtain ⟨k, ⟨cl, o⟩, rfl, rfl, HK⟩ := hrel
    obtain ⟨k1, k2, k3, k3', k4, k5⟩ := HK.out
    clear HK
    simp only at k3 k3'
    by_cases hlt : k < len
    · have hlt' : (k : Int) < (len : Int) := by omega
      have hl := Hl.out
      rcases HL.out with hz | ⟨b, off, rfl, hb, hcell⟩
      · rw [hz] at hl; simp at hl; omega
      have hc : wr.cell? ⟨b, off + k, none⟩ = some (.int .i64 (zs.getD k 0)) := by
        rw [k5.cell (p := ⟨b, off + k, none⟩) hb]; exact hcell k (by omega)
      have hbl : blk zs k = (clsV (zs.getD k 0) == 1) := by unfold blk isB; rw [decide_eq_false (by omega)]; simp
      have hnx : wst (blk zs) (k + 1) = wstep (clsV (zs.getD k 0) == 1) k (cl, o) := by rw [wst, k2, hbl]
      generalize zs.getD k 0 = z at *
      have kb : (k : Int) ≤ 4096 := by omega
      have K4 := hide k4
      have K5 := hide k5
      cases hB : (clsV z == 1)
      · rw [hB] at hnx
        cases o with
        | none =>
          -- a word begins
          rw [wfin_step_out] at hnx
          have HNX := hide hnx
          have K3 := hide (show (wfin k (cl, none)).length ≤ k from k3)
          clear hnx hbl k3 k3' k4 k5 hcell hl k2
          go_wp2_with (first
            | (go_at_call 6; refine (class_any _ _).mono ?_; rintro e w1 ⟨rfl, rfl⟩)
            | (at_builtin; refine wpList_append_own _ rfl _ _ 24 rfl w.heap.size 27 i0 (.agg #[.int .i64 0, .int .i64 0]) 2 16 Tryd.underlying24 HI.out HI0.out HI1.out HI2.out rfl (by decide) _ _ _ rfl (World.ownsRow.alloc K4.out _) ⟨_, 0, none⟩ 1 1 [.int .i64 (k : Int), .int .i64 0] rfl rfl ?d1 ?d2 ?d3 ?d4 ?d5 ?_))
          case d1 =>
            intro j u hj
            match j, hj with
            | 0, hj => simp at hj; subst hj; simp [Addr.add]
            | 1, hj => simp at hj; subst hj; simp [Addr.add]
          case d2 => intro u hu; simp at hu; rcases hu with rfl | rfl <;> rfl
          case d3 => have := K3.out; unfold maxLen; omega
          case d4 => have := K3.out; omega
          case d5 => simp; have := K5.out.size; omega
          intro v2 w2 hown2 hgrow2 _
          have hB2 : Below w.heap.size w w2 := (K5.out.alloc K5.out.size _).grown hgrow2 (by simp; have := K5.out.size; omega) (fun k hk => (World.ownsRow.lt K4.out k hk).1)
          have hS2 : SRow w2 w.heap.size v2 (cl ++ [(k, 0)]) := by
            unfold SRow
            rw [flat_snoc, List.map_append, List.length_append]
            exact hown2
          obtain ⟨g, cap2, rfl, hg1, hg2, hc1, hc2⟩ := hS2.shape (by simp)
          obtain ⟨m, hm⟩ : ∃ m, cl.length = m := ⟨_, rfl⟩
          have hlen : (cl ++ [(k, 0)]).length = m + 1 := by simp [hm]
          rw [hlen] at hS2 hc1 ⊢
          obtain ⟨hcc, hff⟩ := hS2.cell hlen (m * 2 + 1) (by omega)
          have hst := hS2.stored k 0 (k + 1) hlen
          rw [hm] at hst
          have HST := hide hst
          have HB2 := hide (hB2.setCell (p := ⟨g, m * 2 + 1, none⟩) hg1 (.int .i64 ((k + 1 : Nat) : Int)))
          have m1 : (m : Int) ≤ 4096 := by have := K3.out; simp only [wfin] at this; omega
          have HM := hide hm
          generalize (flat (cl ++ [(k, 0)])).getD (m * 2 + 1) 0 = old at *
          clear hown2 hgrow2 hB2 hS2 hlen hst hm
          go_wp2
          go_roundw
          case rel => exact ⟨k + 1, (cl, some k), by go_num, rfl, hide ⟨by omega, HNX.out, by have := K3.out; simp only [wfin] at this; simp only; omega, fun _ => by have := K3.out; simp only [wfin] at this; simp only; omega, HST.out, HB2.out⟩⟩
          case measure => simp [intOf]; omega
        | some f =>
          rw [wfin_step_in] at hnx
          have HNX := hide hnx
          obtain ⟨g, cap2, hv, hg1, hg2, hc1, hc2⟩ := k4.shape (by simp [wfin])
          subst hv
          obtain ⟨m, hm⟩ : ∃ m, cl.length = m := ⟨_, rfl⟩
          have hlen : (cl ++ [(f, k)]).length = m + 1 := by simp [hm]
          have k4' : SRow wr w.heap.size (.slice (some ⟨g, 0, none⟩) (m + 1) cap2) (cl ++ [(f, k)]) := by rw [← hlen]; exact k4
          have e4 : (wfin k (cl, some f)).length = m + 1 := hlen
          rw [e4] at hc1 ⊢
          obtain ⟨hcc, hff⟩ := k4'.cell hlen (m * 2 + 1) (by omega)
          have hst := k4'.stored f k (k + 1) hlen
          rw [hm] at hst
          have HST := hide hst
          have HB2 := hide (K5.out.setCell (p := ⟨g, m * 2 + 1, none⟩) hg1 (.int .i64 ((k + 1 : Nat) : Int)))
          have hmk : m < k := by rw [← hm]; exact k3' rfl
          have m1 : (m : Int) ≤ 4096 := by omega
          have HM := hide (And.intro hm hmk)
          generalize (flat (cl ++ [(f, k)])).getD (m * 2 + 1) 0 = old at *
          clear hnx hbl k3 k3' k4 k5 hcell hl k2 K4 k4' e4 hlen hst hm hmk
          go_wp2_with (go_at_call 6; refine (class_any _ _).mono ?_; rintro e w1 ⟨rfl, rfl⟩)
          go_roundw
          case rel => exact ⟨k + 1, (cl, some f), by go_num, rfl, hide ⟨by omega, HNX.out, by have := HM.out; simp only; omega, fun _ => by have := HM.out; simp only; omega, HST.out, HB2.out⟩⟩
          case measure => simp [intOf]; omega
      · rw [hB] at hnx
        obtain ⟨e1, e2⟩ := wfin_step_b k (cl, o)
        have HNX := hide hnx
        have HE := hide (And.intro e1 e2)
        have K3 := hide (And.intro k3 k3')
        clear hnx hbl k3 k3' k4 k5 hcell hl k2 e1 e2
        go_wp2_with (go_at_call 6; refine (class_any _ _).mono ?_; rintro e w1 ⟨rfl, rfl⟩)
        go_roundw
        case rel =>
          refine ⟨k + 1, wstep true k (cl, o), by go_num, by rw [HE.out.2]; rfl, hide ⟨by omega, HNX.out, ?_, fun h => by rw [HE.out.2] at h; simp at h, by rw [HE.out.1]; exact K4.out, K5.out⟩⟩
          have := K3.out
          cases o with
          | none => simp [wstep]; omega
          | some f => have := this.2 rfl; simp [wstep]; omega
        case measure => simp [intOf]; omega
    · have hlt' : ¬ (k : Int) < (len : Int) := by omega
      obtain rfl : k = len := by omega
      obtain rfl : wfin k (cl, o) = WS := by rw [← HW.out, wrds_fin, Hl.out, k2]
      have K4 := hide k4
      have K5 := hide k5
      clear k2 k3 k3' k4 k5
      go_wp2
      go_ret
      exact ⟨_, rfl, K4.out, K5.out⟩
end Go.Proofs.YtncmkiejamkklabDoor
