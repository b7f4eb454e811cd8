/-
  The reader in memory; what its method maxp answers.
-/
import Derived.Test.YtkdnoemakclmdaaM9Fnd
namespace Go.Proofs.Ytkdnoemakclmdaa
open Go.RowKit Go.Deep
set_option linter.unusedVariables false

/- every block that stood, but one, is as it was -/
structure But (b : Nat) (w w' : World) : Prop where
  os : w'.os = w.os
  tape : w'.tape = w.tape
  output : w'.output = w.output
  size : w.heap.size ≤ w'.heap.size
  block : ∀ k, k < w.heap.size → k ≠ b → w'.heap[k]? = w.heap[k]?
theorem But.refl (b : Nat) (w : World) : But b w w := ⟨rfl, rfl, rfl, Nat.le_refl _, fun _ _ _ => rfl⟩
theorem But.trans {b : Nat} {u v w : World} (h : But b u v) (k : But b v w) : But b u w :=
  ⟨k.os.trans h.os, k.tape.trans h.tape, k.output.trans h.output, Nat.le_trans h.size k.size, fun i hi hn => by rw [k.block i (Nat.lt_of_lt_of_le hi h.size) hn, h.block i hi hn]⟩
theorem But.of_below {b : Nat} {w w' : World} (h : Below w.heap.size w w') : But b w w' := ⟨h.os, h.tape, h.output, h.size, fun k hk _ => h.block k hk⟩
theorem But.setCell (b : Nat) (w : World) (o : Nat) (v : Value) : But b w (w.setCell ⟨b, o, none⟩ v) :=
  ⟨rfl, rfl, rfl, by simp [World.setCell], fun k _ hn => Below.heap_setCell _ _ _ _ hn⟩
theorem But.below {b : Nat} {w w' W : World} (h : But b w w') (h0 : Below W.heap.size W w) (hb : W.heap.size ≤ b) : Below W.heap.size W w' :=
  h0.trans ⟨h.os, h.tape, h.output, h.size, fun k hk => h.block k (Nat.lt_of_lt_of_le hk h0.size) (by omega)⟩
theorem But.drewL {b : Nat} {w w' : World} {n : Nat} (h : But b (w.drewN n) w') : But b w w' := ⟨h.os, h.tape, h.output, h.size, h.block⟩
theorem But.blk {b k : Nat} {w w' : World} {cs : Array Value} {t : TypeId} (h : But b w w') (hk : Blk w k cs t) (hne : k ≠ b) : Blk w' k cs t := by
  have := hk.lt
  unfold Blk at *; rw [h.block k this hne]; exact hk
theorem Blk.drewN {w : World} {b : Nat} {cs : Array Value} {t : TypeId} (h : Blk w b cs t) (n : Nat) : Blk (w.drewN n) b cs t := h
theorem lst_one (W : World) (x : Int) (H : Nat) (hH : W.heap.size = H) : Lst (W.alloc (.cells #[.int .i64 x] 3)) (some ⟨H, 0, none⟩) [x] := by
  subst hH
  refine Or.inr ⟨W.heap.size, 0, rfl, by simp, fun i hi => ?_⟩
  obtain rfl : i = 0 := by simpa using hi
  rw [World.cell?_alloc_at _ _ _ _ rfl]; rfl
def sayB (s : ByteArray) (k : Nat) (t : ByteArray) : Bool := eqS (s.extract k (k + t.size)) t
theorem says_c (s t : ByteArray) (k : Nat) (z : Int) (w : World) (hz : z = (k : Int)) (h : k + t.size ≤ s.size) (hm : s.size ≤ 1073741824) :
    Calls Try.prog 32 #[.string s, .int .i64 z, .string t] w fun e w' => e = .returned (.bool (sayB s k t)) ∧ w' = w := says_any s t k z w hz h hm
abbrev verS : ByteArray := ⟨#[0, 1, 0, 0]⟩
abbrev halfS : ByteArray := ⟨#[0, 0, 80, 0]⟩
abbrev magicS : ByteArray := ⟨#[95, 15, 60, 245]⟩
/- the reader's cells -/
def rcs (ct pr up sc de ga b0 b1 b2 b3 : Int) (lg : Bool) (va vb : Value) : Array Value :=
  #[.int .i64 ct, .int .i64 pr, .int .i64 up, .int .i64 sc, .int .i64 de, .int .i64 ga, .int .i64 b0, .int .i64 b1, .int .i64 b2, .int .i64 b3, .bool lg, va, vb]
def RB (w : World) (b : Nat) (ct pr up sc de ga b0 b1 b2 b3 : Int) (lg : Bool) (va vb : Value) : Prop :=
  Blk w b (rcs ct pr up sc de ga b0 b1 b2 b3 lg va vb) 47
def mxB (s : ByteArray) : Bool := (sayB s 0 halfS || sayB s 0 verS) && wiB 1 4096 [((n2 s.data.toList 4 : Nat) : Int)]
set_option maxHeartbeats 1000000 in
theorem mx_any (s : ByteArray) (b : Nat) (w : World) (ct pr up sc de ga b0 b1 b2 b3 : Int) (lg : Bool) (va vb : Value) (h : RB w b ct pr up sc de ga b0 b1 b2 b3 lg va vb) (hs : 6 ≤ s.size) (hm : s.size ≤ 1073741824) :
    Calls Try.prog 24 #[.pointer (some ⟨b, 0, none⟩), .string s] w fun e w' => e = .returned (.bool (mxB s)) ∧ RB w' b ((n2 s.data.toList 4 : Nat) : Int) pr up sc de ga b0 b1 b2 b3 lg va vb ∧ But b w w' := by
  have CN := hide (number_any s 4 4 w rfl (by omega) hm)
  have CS := hide (fun (t : ByteArray) (w : World) (ht : t.size = 4) => says_c s t 0 0 w rfl (by omega) hm)
  have g0 := h.cell 0
  have f0 := h.frozen 0
  have hlt := h.lt
  have H := hide h
  have E := hide (show mxB s = ((sayB s 0 halfS || sayB s 0 verS) && wiB 1 4096 [((n2 s.data.toList 4 : Nat) : Int)]) from rfl)
  simp [rcs] at g0
  generalize ((n2 s.data.toList 4 : Nat) : Int) = N at CN E ⊢
  clear h hs hm
  go_enter Try.func24, Try.ntmps24
  go_wp2_with fail
  refine CN.out.mono ?_
  rintro e w1 ⟨rfl, n, rfl⟩
  go_wp2_with fail
  have hB : RB ((w.drewN n).setCell ⟨b, 0, none⟩ (.int .i64 N)) b N pr up sc de ga b0 b1 b2 b3 lg va vb := by
    have := Blk.set (H.out.drewN n) 0 (.int .i64 N)
    simpa [rcs, RB] using this
  have hW : But b w ((w.drewN n).setCell ⟨b, 0, none⟩ (.int .i64 N)) := (But.setCell b (w.drewN n) 0 _).drewL
  clear g0 f0 H
  generalize (w.drewN n).setCell ⟨b, 0, none⟩ (.int .i64 N) = W at hB hW ⊢
  have g0 := hB.cell 0
  have hlt := hB.lt
  simp [rcs] at g0
  have HBB := hide hB
  have HW := hide hW
  have CW := hide (fun (H : Nat) (hH : W.heap.size = H) => within_any 1 4096 (some ⟨H, 0, none⟩) [N] 1 1 (W.alloc (.cells #[.int .i64 N] 3)) rfl (by omega) (lst_one W N H hH))
  have hal : Below W.heap.size W (W.alloc (.cells #[.int .i64 N] 3)) := (Below.refl _ _).alloc (Nat.le_refl _) _
  have HAL := hide hal
  clear hB hW hal
  cases q1 : sayB s 0 halfS
  · cases q2 : sayB s 0 verS
    · go_wp2_with (go_at_call 32; refine (CS.out _ _ (by decide)).mono ?_; rintro e w1 ⟨rfl, rfl⟩)
      go_ret
      exact ⟨by rw [E.out, q1, q2]; rfl, HBB.out, HW.out⟩
    · go_wp2_with (first | (go_at_call 32; refine (CS.out _ _ (by decide)).mono ?_; rintro e w1 ⟨rfl, rfl⟩) | (go_at_call 20; refine (CW.out _ rfl).mono ?_; rintro e w1 ⟨rfl, rfl⟩))
      go_ret
      exact ⟨by rw [E.out, q1, q2]; rfl, HBB.out.below HAL.out, HW.out.trans (But.of_below HAL.out)⟩
  · go_wp2_with (first | (go_at_call 32; refine (CS.out _ _ (by decide)).mono ?_; rintro e w1 ⟨rfl, rfl⟩) | (go_at_call 20; refine (CW.out _ rfl).mono ?_; rintro e w1 ⟨rfl, rfl⟩))
    go_ret
    exact ⟨by rw [E.out, q1]; rfl, HBB.out.below HAL.out, HW.out.trans (But.of_below HAL.out)⟩
end Go.Proofs.Ytkdnoemakclmdaa
