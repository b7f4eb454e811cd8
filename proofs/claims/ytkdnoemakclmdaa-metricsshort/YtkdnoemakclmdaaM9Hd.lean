/-
  What the reader's method head answers.
-/
import Derived.Test.YtkdnoemakclmdaaM9Rdr
import Derived.Deep.RegionWith
namespace Go.Proofs.Ytkdnoemakclmdaa
open Go.RowKit Go.Deep
set_option linter.unusedVariables false

theorem But.setW {w w' : World} (b o : Nat) (v : Value) (h : w'.heap = w.heap) (h1 : w'.os = w.os) (h2 : w'.tape = w.tape) (h3 : w'.output = w.output) : But b w (w'.setCell ⟨b, o, none⟩ v) :=
  ⟨h1, h2, h3, by simp [World.setCell, h], fun k _ hn => by rw [Below.heap_setCell _ _ _ _ hn, h]⟩
theorem Blk.setW {w w' : World} {b : Nat} {cs : Array Value} {t : TypeId} (h : Blk w b cs t) (hh : w'.heap = w.heap) (j : Nat) (v : Value) : Blk (w'.setCell ⟨b, j, none⟩ v) b (cs.setIfInBounds j v) t :=
  Blk.set (by unfold Blk at *; rw [hh]; exact h) j v
def hdB (s : ByteArray) : Bool := sayB s 0 verS && sayB s 12 magicS && wiB 16 16384 [((n2 s.data.toList 18 : Nat) : Int)] && wiB 0 1 [((n2 s.data.toList 50 : Nat) : Int)] && (((n2 s.data.toList 52 : Nat) : Int) == 0)
set_option maxHeartbeats 8000000 in
theorem hd_any (s : ByteArray) (b : Nat) (w : World) (ct pr up sc de ga b0 b1 b2 b3 : Int) (lg : Bool) (va vb : Value) (h : RB w b ct pr up sc de ga b0 b1 b2 b3 lg va vb) (hs : 54 ≤ s.size) (hm : s.size ≤ 1073741824) :
    Calls Try.prog 25 #[.pointer (some ⟨b, 0, none⟩), .string s] w fun e w' => e = .returned (.bool (hdB s)) ∧
      RB w' b ct pr ((n2 s.data.toList 18 : Nat) : Int) sc de ga (s2 s.data.toList 36) (s2 s.data.toList 38) (s2 s.data.toList 40) (s2 s.data.toList 42) (((n2 s.data.toList 50 : Nat) : Int) == 1) va vb ∧ But b w w' := by
  have CN := hide (fun (k : Nat) (z : Int) (w : World) (hz : z = (k : Int)) (hk : k + 2 ≤ 54) => number_any s k z w hz (by omega) hm)
  have CG := hide (fun (k : Nat) (z : Int) (w : World) (hz : z = (k : Int)) (hk : k + 2 ≤ 54) => signed_any s k z w hz (by omega) hm)
  have CS := hide (fun (t : ByteArray) (z : Int) (w : World) (hz : 0 ≤ z) (ht : t.size = 4) (hk : z.toNat + 4 ≤ 54) => says_c s t z.toNat z w (by omega) (by omega) hm)
  have H := hide h
  have E := hide (show hdB s = (sayB s 0 verS && sayB s 12 magicS && wiB 16 16384 [((n2 s.data.toList 18 : Nat) : Int)] && wiB 0 1 [((n2 s.data.toList 50 : Nat) : Int)] && (((n2 s.data.toList 52 : Nat) : Int) == 0)) from rfl)
  have hlt := h.lt
  have g2 := h.cell 2
  have f2 := h.frozen 2
  have g10 := h.cell 10
  have f10 := h.frozen 10
  simp [rcs] at g2 g10
  clear h hs hm
  go_enter Try.func25, Try.ntmps25
  go_wp2_with fail
  refine (CN.out 50 _ _ rfl (by omega)).mono ?_
  rintro e w1 ⟨rfl, n, rfl⟩
  go_wp2_with fail
  refine (CN.out 18 _ _ rfl (by omega)).mono ?_
  rintro e w1 ⟨rfl, n', rfl⟩
  go_wp2_with fail
  have hB : RB (((w.drewN (n + n')).setCell ⟨b, 2, none⟩ (.int .i64 ((n2 s.data.toList 18 : Nat) : Int))).setCell ⟨b, 10, none⟩ (.bool (((n2 s.data.toList 50 : Nat) : Int) == 1))) b ct pr ((n2 s.data.toList 18 : Nat) : Int) sc de ga b0 b1 b2 b3 (((n2 s.data.toList 50 : Nat) : Int) == 1) va vb := by
    have := Blk.set (Blk.set (H.out.drewN (n + n')) 2 (.int .i64 ((n2 s.data.toList 18 : Nat) : Int))) 10 (.bool (((n2 s.data.toList 50 : Nat) : Int) == 1))
    simpa [rcs, RB] using this
  have hW : But b w (((w.drewN (n + n')).setCell ⟨b, 2, none⟩ (.int .i64 ((n2 s.data.toList 18 : Nat) : Int))).setCell ⟨b, 10, none⟩ (.bool (((n2 s.data.toList 50 : Nat) : Int) == 1))) := ((But.setCell b (w.drewN (n + n')) 2 _).trans (But.setCell b _ 10 _)).drewL
  clear g2 g10 f2 f10 H
  generalize ((w.drewN (n + n')).setCell ⟨b, 2, none⟩ (.int .i64 ((n2 s.data.toList 18 : Nat) : Int))).setCell ⟨b, 10, none⟩ (.bool (((n2 s.data.toList 50 : Nat) : Int) == 1)) = W0 at hB hW ⊢
  have HB0 := hide hB
  have HW0 := hide hW
  clear hB hW
  refine wp_loop_rounds 5 ?_
  rw [rounds_succ]
  have g := HB0.out.cell 6
  have f := HB0.out.frozen 6
  have hlt := HB0.out.lt
  simp [rcs] at g
  go_wp2_with fail
  go_region_with ((go_at_call 33; refine (CG.out 36 _ _ rfl (by omega)).mono ?_; rintro e w1 ⟨rfl, m, rfl⟩))
  have hB : RB ((W0.drewN (1 + m)).setCell ⟨b, 6, none⟩ (.int .i64 (s2 s.data.toList 36))) b ct pr ((n2 s.data.toList 18 : Nat) : Int) sc de ga (s2 s.data.toList 36) b1 b2 b3 (((n2 s.data.toList 50 : Nat) : Int) == 1) va vb := by
    have := Blk.set (HB0.out.drewN (1 + m)) 6 (.int .i64 (s2 s.data.toList 36))
    simpa [rcs, RB] using this
  have hW : But b w ((W0.drewN (1 + m)).setCell ⟨b, 6, none⟩ (.int .i64 (s2 s.data.toList 36))) := HW0.out.trans (But.setCell b (W0.drewN (1 + m)) 6 _).drewL
  clear g f hlt
  generalize (W0.drewN (1 + m)).setCell ⟨b, 6, none⟩ (.int .i64 (s2 s.data.toList 36)) = W1 at hB hW ⊢
  have HB1 := hide hB
  have HW1 := hide hW
  clear hB hW HB0 HW0
  go_wp2_with fail
  rw [rounds_succ]
  have g := HB1.out.cell 7
  have f := HB1.out.frozen 7
  have hlt := HB1.out.lt
  simp [rcs] at g
  go_wp2_with fail
  go_region_with ((go_at_call 33; refine (CG.out 38 _ _ rfl (by omega)).mono ?_; rintro e w1 ⟨rfl, m, rfl⟩))
  have hB : RB ((W1.drewN (1 + m)).setCell ⟨b, 7, none⟩ (.int .i64 (s2 s.data.toList 38))) b ct pr ((n2 s.data.toList 18 : Nat) : Int) sc de ga (s2 s.data.toList 36) (s2 s.data.toList 38) b2 b3 (((n2 s.data.toList 50 : Nat) : Int) == 1) va vb := by
    have := Blk.set (HB1.out.drewN (1 + m)) 7 (.int .i64 (s2 s.data.toList 38))
    simpa [rcs, RB] using this
  have hW : But b w ((W1.drewN (1 + m)).setCell ⟨b, 7, none⟩ (.int .i64 (s2 s.data.toList 38))) := HW1.out.trans (But.setCell b (W1.drewN (1 + m)) 7 _).drewL
  clear g f hlt
  generalize (W1.drewN (1 + m)).setCell ⟨b, 7, none⟩ (.int .i64 (s2 s.data.toList 38)) = W2 at hB hW ⊢
  have HB2 := hide hB
  have HW2 := hide hW
  clear hB hW HB1 HW1
  go_wp2_with fail
  rw [rounds_succ]
  have g := HB2.out.cell 8
  have f := HB2.out.frozen 8
  have hlt := HB2.out.lt
  simp [rcs] at g
  go_wp2_with fail
  go_region_with ((go_at_call 33; refine (CG.out 40 _ _ rfl (by omega)).mono ?_; rintro e w1 ⟨rfl, m, rfl⟩))
  have hB : RB ((W2.drewN (1 + m)).setCell ⟨b, 8, none⟩ (.int .i64 (s2 s.data.toList 40))) b ct pr ((n2 s.data.toList 18 : Nat) : Int) sc de ga (s2 s.data.toList 36) (s2 s.data.toList 38) (s2 s.data.toList 40) b3 (((n2 s.data.toList 50 : Nat) : Int) == 1) va vb := by
    have := Blk.set (HB2.out.drewN (1 + m)) 8 (.int .i64 (s2 s.data.toList 40))
    simpa [rcs, RB] using this
  have hW : But b w ((W2.drewN (1 + m)).setCell ⟨b, 8, none⟩ (.int .i64 (s2 s.data.toList 40))) := HW2.out.trans (But.setCell b (W2.drewN (1 + m)) 8 _).drewL
  clear g f hlt
  generalize (W2.drewN (1 + m)).setCell ⟨b, 8, none⟩ (.int .i64 (s2 s.data.toList 40)) = W3 at hB hW ⊢
  have HB3 := hide hB
  have HW3 := hide hW
  clear hB hW HB2 HW2
  go_wp2_with fail
  rw [rounds_succ]
  have g := HB3.out.cell 9
  have f := HB3.out.frozen 9
  have hlt := HB3.out.lt
  simp [rcs] at g
  go_wp2_with fail
  go_region_with ((go_at_call 33; refine (CG.out 42 _ _ rfl (by omega)).mono ?_; rintro e w1 ⟨rfl, m, rfl⟩))
  have hB : RB ((W3.drewN (1 + m)).setCell ⟨b, 9, none⟩ (.int .i64 (s2 s.data.toList 42))) b ct pr ((n2 s.data.toList 18 : Nat) : Int) sc de ga (s2 s.data.toList 36) (s2 s.data.toList 38) (s2 s.data.toList 40) (s2 s.data.toList 42) (((n2 s.data.toList 50 : Nat) : Int) == 1) va vb := by
    have := Blk.set (HB3.out.drewN (1 + m)) 9 (.int .i64 (s2 s.data.toList 42))
    simpa [rcs, RB] using this
  have hW : But b w ((W3.drewN (1 + m)).setCell ⟨b, 9, none⟩ (.int .i64 (s2 s.data.toList 42))) := HW3.out.trans (But.setCell b (W3.drewN (1 + m)) 9 _).drewL
  clear g f hlt
  generalize (W3.drewN (1 + m)).setCell ⟨b, 9, none⟩ (.int .i64 (s2 s.data.toList 42)) = W4 at hB hW ⊢
  have HB4 := hide hB
  have HW4 := hide hW
  clear hB hW HB3 HW3
  go_wp2_with fail
  rw [rounds_succ]
  have g := HB4.out.cell 2
  have hlt := HB4.out.lt
  simp [rcs] at g
  have CW := hide (fun (W : World) (x lo hi : Int) (H : Nat) (hH : W.heap.size = H) => within_any lo hi (some ⟨H, 0, none⟩) [x] 1 1 (W.alloc (.cells #[.int .i64 x] 3)) rfl (by omega) (lst_one W x H hH))
  have FIN := hide (show ∀ W', Below W4.heap.size W4 W' → RB W' b ct pr ((n2 s.data.toList 18 : Nat) : Int) sc de ga (s2 s.data.toList 36) (s2 s.data.toList 38) (s2 s.data.toList 40) (s2 s.data.toList 42) (((n2 s.data.toList 50 : Nat) : Int) == 1) va vb ∧ But b w W' from fun W' h => ⟨HB4.out.below h, HW4.out.trans (But.of_below h)⟩)
  clear CG HB4 HW4
  cases q1 : sayB s 0 verS
  · go_wp2_with (first | (go_at_call 32; refine (CS.out _ _ _ (by decide) (by decide) (by decide)).mono ?_; rintro e w1 ⟨rfl, rfl⟩) | (go_at_call 20; refine (CW.out _ _ _ _ _ (by simp)).mono ?_; rintro e w1 ⟨rfl, rfl⟩) | (go_at_call 31; refine (CN.out 52 _ _ rfl (by omega)).mono ?_; rintro e w1 ⟨rfl, m, rfl⟩))
    go_ret
    exact ⟨by rw [E.out, q1]; rfl, FIN.out _ (Below.refl _ _)⟩
  cases q2 : sayB s 12 magicS
  · go_wp2_with (first | (go_at_call 32; refine (CS.out _ _ _ (by decide) (by decide) (by decide)).mono ?_; rintro e w1 ⟨rfl, rfl⟩) | (go_at_call 20; refine (CW.out _ _ _ _ _ (by simp)).mono ?_; rintro e w1 ⟨rfl, rfl⟩) | (go_at_call 31; refine (CN.out 52 _ _ rfl (by omega)).mono ?_; rintro e w1 ⟨rfl, m, rfl⟩))
    go_ret
    exact ⟨by rw [E.out, q1, q2]; rfl, FIN.out _ (Below.refl _ _)⟩
  cases q3 : wiB 16 16384 [((n2 s.data.toList 18 : Nat) : Int)]
  · go_wp2_with (first | (go_at_call 32; refine (CS.out _ _ _ (by decide) (by decide) (by decide)).mono ?_; rintro e w1 ⟨rfl, rfl⟩) | (go_at_call 20; refine (CW.out _ _ _ _ _ (by simp)).mono ?_; rintro e w1 ⟨rfl, rfl⟩) | (go_at_call 31; refine (CN.out 52 _ _ rfl (by omega)).mono ?_; rintro e w1 ⟨rfl, m, rfl⟩))
    go_ret
    exact ⟨by rw [E.out, q1, q2, q3]; rfl, FIN.out _ ((Below.refl _ _).alloc (Nat.le_refl _) _)⟩
  cases q4 : wiB 0 1 [((n2 s.data.toList 50 : Nat) : Int)]
  · go_wp2_with (first | (go_at_call 32; refine (CS.out _ _ _ (by decide) (by decide) (by decide)).mono ?_; rintro e w1 ⟨rfl, rfl⟩) | (go_at_call 20; refine (CW.out _ _ _ _ _ (by simp)).mono ?_; rintro e w1 ⟨rfl, rfl⟩) | (go_at_call 31; refine (CN.out 52 _ _ rfl (by omega)).mono ?_; rintro e w1 ⟨rfl, m, rfl⟩))
    go_ret
    exact ⟨by rw [E.out, q1, q2, q3, q4]; rfl, FIN.out _ (((Below.refl _ _).alloc (Nat.le_refl _) _).alloc (by simp) _)⟩
  · go_wp2_with (first | (go_at_call 32; refine (CS.out _ _ _ (by decide) (by decide) (by decide)).mono ?_; rintro e w1 ⟨rfl, rfl⟩) | (go_at_call 20; refine (CW.out _ _ _ _ _ (by simp)).mono ?_; rintro e w1 ⟨rfl, rfl⟩) | (go_at_call 31; refine (CN.out 52 _ _ rfl (by omega)).mono ?_; rintro e w1 ⟨rfl, m, rfl⟩))
    go_ret
    exact ⟨by rw [E.out, q1, q2, q3, q4]; rfl, FIN.out _ (below_drewN (((Below.refl _ _).alloc (Nat.le_refl _) _).alloc (by simp) _) _)⟩
end Go.Proofs.Ytkdnoemakclmdaa
