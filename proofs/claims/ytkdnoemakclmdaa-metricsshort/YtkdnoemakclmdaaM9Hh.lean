/-
  What the reader's method hhea answers.
-/
import Derived.Test.YtkdnoemakclmdaaM9Hd
namespace Go.Proofs.Ytkdnoemakclmdaa
open Go.RowKit Go.Deep
set_option linter.unusedVariables false

def hhB (s : ByteArray) (ct : Int) : Bool := sayB s 0 verS && (((n2 s.data.toList 32 : Nat) : Int) == 0) && wiB 1 ct [((n2 s.data.toList 34 : Nat) : Int)]
set_option maxHeartbeats 8000000 in
theorem hh_any (s : ByteArray) (b : Nat) (w : World) (ct pr up sc de ga b0 b1 b2 b3 : Int) (lg : Bool) (va vb : Value) (h : RB w b ct pr up sc de ga b0 b1 b2 b3 lg va vb) (hs : 36 ≤ s.size) (hm : s.size ≤ 1073741824) :
    Calls Try.prog 26 #[.pointer (some ⟨b, 0, none⟩), .string s] w fun e w' => e = .returned (.bool (hhB s ct)) ∧
      RB w' b ct ((n2 s.data.toList 34 : Nat) : Int) up (s2 s.data.toList 4) (s2 s.data.toList 6) (s2 s.data.toList 8) b0 b1 b2 b3 lg va vb ∧ But b w w' := by
  have CN := hide (fun (k : Nat) (z : Int) (w : World) (hz : z = (k : Int)) (hk : k + 2 ≤ 36) => number_any s k z w hz (by omega) hm)
  have CG := hide (fun (k : Nat) (z : Int) (w : World) (hz : z = (k : Int)) (hk : k + 2 ≤ 36) => signed_any s k z w hz (by omega) hm)
  have hv4 : verS.size = 4 := by decide
  have CS := hide (fun (w : World) => says_c s verS 0 0 w rfl (by omega) hm)
  have H := hide h
  have E := hide (show hhB s ct = (sayB s 0 verS && (((n2 s.data.toList 32 : Nat) : Int) == 0) && wiB 1 ct [((n2 s.data.toList 34 : Nat) : Int)]) from rfl)
  have hlt := h.lt
  have g1 := h.cell 1
  have f1 := h.frozen 1
  have g3 := h.cell 3
  have f3 := h.frozen 3
  have g4 := h.cell 4
  have f4 := h.frozen 4
  have g5 := h.cell 5
  have f5 := h.frozen 5
  simp [rcs] at g1 g3 g4 g5
  clear h hs hm
  go_enter Try.func26, Try.ntmps26
  go_wp2_with fail
  refine (CN.out 34 _ _ rfl (by omega)).mono ?_
  rintro e w1 ⟨rfl, n0, rfl⟩
  go_wp2_with fail
  refine (CG.out 4 _ _ rfl (by omega)).mono ?_
  rintro e w1 ⟨rfl, n1, rfl⟩
  go_wp2_with fail
  refine (CG.out 6 _ _ rfl (by omega)).mono ?_
  rintro e w1 ⟨rfl, n2', rfl⟩
  go_wp2_with fail
  refine (CG.out 8 _ _ rfl (by omega)).mono ?_
  rintro e w1 ⟨rfl, n3, rfl⟩
  go_wp2_with fail
  have hB : RB ((((((((w.drewN n0).setCell ⟨b, 1, none⟩ (.int .i64 ((n2 s.data.toList 34 : Nat) : Int))).drewN n1).setCell ⟨b, 3, none⟩ (.int .i64 (s2 s.data.toList 4))).drewN n2').setCell ⟨b, 4, none⟩ (.int .i64 (s2 s.data.toList 6))).drewN n3).setCell ⟨b, 5, none⟩ (.int .i64 (s2 s.data.toList 8))) b ct ((n2 s.data.toList 34 : Nat) : Int) up (s2 s.data.toList 4) (s2 s.data.toList 6) (s2 s.data.toList 8) b0 b1 b2 b3 lg va vb := by
    have := Blk.set (Blk.drewN (Blk.set (Blk.drewN (Blk.set (Blk.drewN (Blk.set (H.out.drewN n0) 1 (.int .i64 ((n2 s.data.toList 34 : Nat) : Int))) n1) 3 (.int .i64 (s2 s.data.toList 4))) n2') 4 (.int .i64 (s2 s.data.toList 6))) n3) 5 (.int .i64 (s2 s.data.toList 8))
    simpa [rcs, RB] using this
  have hW : But b w ((((((((w.drewN n0).setCell ⟨b, 1, none⟩ (.int .i64 ((n2 s.data.toList 34 : Nat) : Int))).drewN n1).setCell ⟨b, 3, none⟩ (.int .i64 (s2 s.data.toList 4))).drewN n2').setCell ⟨b, 4, none⟩ (.int .i64 (s2 s.data.toList 6))).drewN n3).setCell ⟨b, 5, none⟩ (.int .i64 (s2 s.data.toList 8))) := (But.setCell b (w.drewN n0) 1 _).drewL.trans ((But.setCell b _ 3 _).drewL.trans ((But.setCell b _ 4 _).drewL.trans (But.setCell b _ 5 _).drewL))
  clear g1 g3 g4 g5 f1 f3 f4 f5 H hlt CG
  generalize ((((((((w.drewN n0).setCell ⟨b, 1, none⟩ (.int .i64 ((n2 s.data.toList 34 : Nat) : Int))).drewN n1).setCell ⟨b, 3, none⟩ (.int .i64 (s2 s.data.toList 4))).drewN n2').setCell ⟨b, 4, none⟩ (.int .i64 (s2 s.data.toList 6))).drewN n3).setCell ⟨b, 5, none⟩ (.int .i64 (s2 s.data.toList 8))) = W4 at hB hW ⊢
  have g0 := hB.cell 0
  have g1 := hB.cell 1
  have hlt := hB.lt
  simp [rcs] at g0 g1
  have CW := hide (fun (W : World) (x lo hi : Int) (H : Nat) (hH : W.heap.size = H) => within_any lo hi (some ⟨H, 0, none⟩) [x] 1 1 (W.alloc (.cells #[.int .i64 x] 3)) rfl (by omega) (lst_one W x H hH))
  have FIN := hide (show ∀ W', Below W4.heap.size W4 W' → RB W' b ct ((n2 s.data.toList 34 : Nat) : Int) up (s2 s.data.toList 4) (s2 s.data.toList 6) (s2 s.data.toList 8) b0 b1 b2 b3 lg va vb ∧ But b w W' from fun W' h => ⟨hB.below h, hW.trans (But.of_below h)⟩)
  clear hB hW
  cases q1 : sayB s 0 verS
  · rw [q1] at CS
    go_quiet ((go_at_call 32; exact Calls.quiet_of_same (CS.out _)))
    go_wp2_with fail
    go_ret
    exact ⟨by rw [E.out, q1]; rfl, FIN.out _ (below_drewN (Below.refl _ _) _)⟩
  rw [q1] at CS
  cases q2 : ((n2 s.data.toList 32 : Nat) : Int) == 0
  · go_quiet ((first | (go_at_call 32; exact Calls.quiet_of_same (CS.out _)) | (go_at_call 31; exact Calls.quiet_of (CN.out 32 _ _ rfl (by omega)))))
    go_wp2_with fail
    go_ret
    exact ⟨by rw [E.out, q1, q2]; rfl, FIN.out _ (below_drewN (Below.refl _ _) _)⟩
  have hn1 := World.new_ne W4 ⟨b, 0, none⟩ g0
  have hn2 := World.new_ne W4 ⟨b, 1, none⟩ g1
  go_region_held3 (fun x => x.cell? ⟨b, 0, none⟩ = some (.int .i64 ct) ∧ x.cell? ⟨b, 1, none⟩ = some (.int .i64 ((n2 s.data.toList 34 : Nat) : Int))) (go_keep) ((first | (go_at_call 32; refine (CS.out _).mono ?_; rintro e w1 ⟨rfl, rfl⟩) | (go_at_call 31; refine (CN.out 32 _ _ rfl (by omega)).mono ?_; rintro e w1 ⟨rfl, m, rfl⟩) | (go_at_call 20; refine (CW.out _ _ _ _ _ (by simp)).mono ?_; rintro e w1 ⟨rfl, rfl⟩)))
  all_goals
    go_wp2_with fail
    go_ret
    exact ⟨by rw [E.out, q1, q2]; rfl, FIN.out _ ((below_drewN (Below.refl _ _) _).alloc (Nat.le_refl _) _)⟩
end Go.Proofs.Ytkdnoemakclmdaa
