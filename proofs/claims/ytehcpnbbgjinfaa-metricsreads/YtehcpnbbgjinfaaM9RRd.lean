/-
  What the reference's Read answers.
-/
import Derived.Test.YtehcpnbbgjinfaaM9RRa
import Derived.Test.YtehcpnbbgjinfaaM9RG
namespace Go.Proofs.Ytehcpnbbgjinfaa
open Go.RowKit Go.Deep
set_option linter.unusedVariables false
set_option linter.unusedSimpArgs false

theorem fn_let (l : List Tab) (t : ByteArray) : ∃ (s : ByteArray) (b : Bool), fnR (finV l t) = .tuple #[.string s, .bool b] ∧ ((b = true ∧ finV l t = some s) ∨ (b = false ∧ finV l t = none)) := by
  cases h : finV l t with
  | none => exact ⟨⟨#[]⟩, false, rfl, Or.inr ⟨rfl, rfl⟩⟩
  | some d => exact ⟨d, true, rfl, Or.inl ⟨rfl, rfl⟩⟩
def advL (hx : ByteArray) (h n : Nat) : List Int := (List.range n).map (advF hx h)
def beaL (hx : ByteArray) (h n : Nat) : List Int := (List.range n).map (beaF hx h)
def RrR (l : List Tab) (w : World) (e : Ending) (w' : World) : Prop :=
  (readV l = none ∧ e = .returned (.tuple #[zeroM, .int .i64 90]) ∧ Below w.heap.size w w') ∨
  ∃ mx hd hh hx a1 c1 a2 c2, readV l = some (mx, hd, hh, hx) ∧ e = .returned (.tuple #[mval mx hd hh (.slice a1 (nV mx) c1) (.slice a2 (nV mx) c2), .int .i64 0]) ∧
    Below w.heap.size w w' ∧ Lst w' a1 (advL hx (hV hh) (nV mx)) ∧ Lst w' a2 (beaL hx (hV hh) (nV mx))
theorem u2_let (s : ByteArray) (k : Nat) (h : k + 2 ≤ s.size) (hm : s.size ≤ 1073741824) : ∀ w, Calls Try.prog 28 #[.string s, .int .i64 (k : Int)] w fun e w' => e = .returned (.int .i64 ((n2 s.data.toList k : Nat) : Int)) ∧ ∃ n, w' = w.drewN n := fun w => ru2_any s k k w rfl h hm
theorem say4 (s t : ByteArray) (k : Nat) (L : List UInt8) (ht : t.size = 4) (hL : t.data.toList = L) : sayB s k t = ((s.extract k (k + 4)).toList == L) := by unfold sayB eqS; rw [ht, Lib.toList_data t, hL]
set_option maxRecDepth 8000 in
set_option maxHeartbeats 16000000 in
theorem rrd_no (a : Option Addr) (l : List Tab) (n c : Nat) (w : World) (hn : l.length = n) (hm : n ≤ 1073741824) (hd0 : ∀ x ∈ l, x.2.size ≤ 1073741824) (hL : TLst w a l) (hno : readV l = none) :
    Calls Try.prog 11 #[.slice a n c] w fun e w' => e = .returned (.tuple #[zeroM, .int .i64 90]) ∧ Below w.heap.size w w' := by
  obtain ⟨hd, bhd, e0, f0⟩ := fn_let l headS
  obtain ⟨hh, bhh, e1, f1⟩ := fn_let l hheaS
  obtain ⟨mx, bmx, e2, f2⟩ := fn_let l maxpS
  obtain ⟨hx, bhx, e3, f3⟩ := fn_let l hmtxS
  have hbw := (Below.refl w.heap.size w).alloc (Nat.le_refl _) (.cells zeroC 28)
  have hkv := Blk.new w zeroC 28
  obtain ⟨V, hV⟩ : ∃ V, w.alloc (.cells zeroC 28) = V := ⟨_, rfl⟩
  rw [hV] at hbw hkv
  have KV := hide hkv
  have HVV := hide hV
  clear hkv hV
  have CF0 := hide (rfind_any a l n c headS V hn hm (hL.below hbw))
  have CF1 := hide (rfind_any a l n c hheaS V hn hm (hL.below hbw))
  have CF2 := hide (rfind_any a l n c maxpS V hn hm (hL.below hbw))
  have CF3 := hide (rfind_any a l n c hmtxS V hn hm (hL.below hbw))
  rw [e0] at CF0
  rw [e1] at CF1
  rw [e2] at CF2
  rw [e3] at CF3
  have HB := hide hbw
  have HD := hide hd0
  have HNO := hide hno
  clear hbw hn hm hL e0 e1 e2 e3 hd0 hno
  rcases f0 with ⟨rfl, ghd⟩ | ⟨rfl, ghd⟩
  case inr =>
    clear ghd HD HNO
    go_enter Try.func11, Try.ntmps11
    go_wp2_with fail
    rw [HVV.out]
    refine CF0.out.mono ?_
    rintro e w1 ⟨rfl, hw⟩
    replace hw := hw.symm
    subst hw
    go_wp2_with fail
    refine CF1.out.mono ?_
    rintro e w1 ⟨rfl, hw⟩
    replace hw := hw.symm
    subst hw
    go_wp2_with fail
    refine CF2.out.mono ?_
    rintro e w1 ⟨rfl, hw⟩
    replace hw := hw.symm
    subst hw
    go_wp2_with fail
    refine CF3.out.mono ?_
    rintro e w1 ⟨rfl, hw⟩
    replace hw := hw.symm
    subst hw
    have z0 := KV.out.cell 0
    have y0 := KV.out.frozen 0
    have z1 := KV.out.cell 1
    have y1 := KV.out.frozen 1
    have z2 := KV.out.cell 2
    have y2 := KV.out.frozen 2
    have z3 := KV.out.cell 3
    have y3 := KV.out.frozen 3
    have z4 := KV.out.cell 4
    have y4 := KV.out.frozen 4
    have z5 := KV.out.cell 5
    have y5 := KV.out.frozen 5
    have z6 := KV.out.cell 6
    have y6 := KV.out.frozen 6
    have z7 := KV.out.cell 7
    have y7 := KV.out.frozen 7
    have z8 := KV.out.cell 8
    have y8 := KV.out.frozen 8
    have z9 := KV.out.cell 9
    have y9 := KV.out.frozen 9
    have z10 := KV.out.cell 10
    have y10 := KV.out.frozen 10
    simp at z0 z1 z2 z3 z4 z5 z6 z7 z8 z9 z10
    have zlt := KV.out.lt
    go_wp2_with fail
    have hst := store11 KV.out (.int .i64 0) (.int .i64 0) (.int .i64 0) (.int .i64 0) (.int .i64 0) (.int .i64 0) (.int .i64 0) (.int .i64 0) (.bool false) (.slice none 0 0) (.slice none 0 0)
    have hbe := hst.2.below HB.out (Nat.le_refl _)
    clear z0 y0 z1 y1 z2 y2 z3 y3 z4 y4 z5 y5 z6 y6 z7 y7 z8 y8 z9 y9 z10 y10 zlt
    generalize (((((((((((V.setCell ⟨w.heap.size, 0, none⟩ (.int .i64 0)).setCell ⟨w.heap.size, 1, none⟩ (.int .i64 0)).setCell ⟨w.heap.size, 2, none⟩ (.int .i64 0)).setCell ⟨w.heap.size, 3, none⟩ (.int .i64 0)).setCell ⟨w.heap.size, 4, none⟩ (.int .i64 0)).setCell ⟨w.heap.size, 5, none⟩ (.int .i64 0)).setCell ⟨w.heap.size, 6, none⟩ (.int .i64 0)).setCell ⟨w.heap.size, 7, none⟩ (.int .i64 0)).setCell ⟨w.heap.size, 8, none⟩ (.bool false)).setCell ⟨w.heap.size, 9, none⟩ (.slice none 0 0)).setCell ⟨w.heap.size, 10, none⟩ (.slice none 0 0)) = ZZ at hst hbe ⊢
    have q0 := hst.1.cell 0
    have q1 := hst.1.cell 1
    have q2 := hst.1.cell 2
    have q3 := hst.1.cell 3
    have q4 := hst.1.cell 4
    have q5 := hst.1.cell 5
    have q6 := hst.1.cell 6
    have q7 := hst.1.cell 7
    have q8 := hst.1.cell 8
    have q9 := hst.1.cell 9
    have q10 := hst.1.cell 10
    simp at q0 q1 q2 q3 q4 q5 q6 q7 q8 q9 q10
    exact bodyPost_ret (v := .tuple #[zeroM, .int .i64 90]) (by simp [results, Try.results11, go_sem, zeroM, q0, q1, q2, q3, q4, q5, q6, q7, q8, q9, q10]) rfl ⟨rfl, hbe⟩
  rcases f1 with ⟨rfl, ghh⟩ | ⟨rfl, ghh⟩
  case inr =>
    clear ghh HD HNO
    go_enter Try.func11, Try.ntmps11
    go_wp2_with fail
    rw [HVV.out]
    refine CF0.out.mono ?_
    rintro e w1 ⟨rfl, hw⟩
    replace hw := hw.symm
    subst hw
    go_wp2_with fail
    refine CF1.out.mono ?_
    rintro e w1 ⟨rfl, hw⟩
    replace hw := hw.symm
    subst hw
    go_wp2_with fail
    refine CF2.out.mono ?_
    rintro e w1 ⟨rfl, hw⟩
    replace hw := hw.symm
    subst hw
    go_wp2_with fail
    refine CF3.out.mono ?_
    rintro e w1 ⟨rfl, hw⟩
    replace hw := hw.symm
    subst hw
    have z0 := KV.out.cell 0
    have y0 := KV.out.frozen 0
    have z1 := KV.out.cell 1
    have y1 := KV.out.frozen 1
    have z2 := KV.out.cell 2
    have y2 := KV.out.frozen 2
    have z3 := KV.out.cell 3
    have y3 := KV.out.frozen 3
    have z4 := KV.out.cell 4
    have y4 := KV.out.frozen 4
    have z5 := KV.out.cell 5
    have y5 := KV.out.frozen 5
    have z6 := KV.out.cell 6
    have y6 := KV.out.frozen 6
    have z7 := KV.out.cell 7
    have y7 := KV.out.frozen 7
    have z8 := KV.out.cell 8
    have y8 := KV.out.frozen 8
    have z9 := KV.out.cell 9
    have y9 := KV.out.frozen 9
    have z10 := KV.out.cell 10
    have y10 := KV.out.frozen 10
    simp at z0 z1 z2 z3 z4 z5 z6 z7 z8 z9 z10
    have zlt := KV.out.lt
    go_wp2_with fail
    have hst := store11 KV.out (.int .i64 0) (.int .i64 0) (.int .i64 0) (.int .i64 0) (.int .i64 0) (.int .i64 0) (.int .i64 0) (.int .i64 0) (.bool false) (.slice none 0 0) (.slice none 0 0)
    have hbe := hst.2.below HB.out (Nat.le_refl _)
    clear z0 y0 z1 y1 z2 y2 z3 y3 z4 y4 z5 y5 z6 y6 z7 y7 z8 y8 z9 y9 z10 y10 zlt
    generalize (((((((((((V.setCell ⟨w.heap.size, 0, none⟩ (.int .i64 0)).setCell ⟨w.heap.size, 1, none⟩ (.int .i64 0)).setCell ⟨w.heap.size, 2, none⟩ (.int .i64 0)).setCell ⟨w.heap.size, 3, none⟩ (.int .i64 0)).setCell ⟨w.heap.size, 4, none⟩ (.int .i64 0)).setCell ⟨w.heap.size, 5, none⟩ (.int .i64 0)).setCell ⟨w.heap.size, 6, none⟩ (.int .i64 0)).setCell ⟨w.heap.size, 7, none⟩ (.int .i64 0)).setCell ⟨w.heap.size, 8, none⟩ (.bool false)).setCell ⟨w.heap.size, 9, none⟩ (.slice none 0 0)).setCell ⟨w.heap.size, 10, none⟩ (.slice none 0 0)) = ZZ at hst hbe ⊢
    have q0 := hst.1.cell 0
    have q1 := hst.1.cell 1
    have q2 := hst.1.cell 2
    have q3 := hst.1.cell 3
    have q4 := hst.1.cell 4
    have q5 := hst.1.cell 5
    have q6 := hst.1.cell 6
    have q7 := hst.1.cell 7
    have q8 := hst.1.cell 8
    have q9 := hst.1.cell 9
    have q10 := hst.1.cell 10
    simp at q0 q1 q2 q3 q4 q5 q6 q7 q8 q9 q10
    exact bodyPost_ret (v := .tuple #[zeroM, .int .i64 90]) (by simp [results, Try.results11, go_sem, zeroM, q0, q1, q2, q3, q4, q5, q6, q7, q8, q9, q10]) rfl ⟨rfl, hbe⟩
  rcases f2 with ⟨rfl, gmx⟩ | ⟨rfl, gmx⟩
  case inr =>
    clear gmx HD HNO
    go_enter Try.func11, Try.ntmps11
    go_wp2_with fail
    rw [HVV.out]
    refine CF0.out.mono ?_
    rintro e w1 ⟨rfl, hw⟩
    replace hw := hw.symm
    subst hw
    go_wp2_with fail
    refine CF1.out.mono ?_
    rintro e w1 ⟨rfl, hw⟩
    replace hw := hw.symm
    subst hw
    go_wp2_with fail
    refine CF2.out.mono ?_
    rintro e w1 ⟨rfl, hw⟩
    replace hw := hw.symm
    subst hw
    go_wp2_with fail
    refine CF3.out.mono ?_
    rintro e w1 ⟨rfl, hw⟩
    replace hw := hw.symm
    subst hw
    have z0 := KV.out.cell 0
    have y0 := KV.out.frozen 0
    have z1 := KV.out.cell 1
    have y1 := KV.out.frozen 1
    have z2 := KV.out.cell 2
    have y2 := KV.out.frozen 2
    have z3 := KV.out.cell 3
    have y3 := KV.out.frozen 3
    have z4 := KV.out.cell 4
    have y4 := KV.out.frozen 4
    have z5 := KV.out.cell 5
    have y5 := KV.out.frozen 5
    have z6 := KV.out.cell 6
    have y6 := KV.out.frozen 6
    have z7 := KV.out.cell 7
    have y7 := KV.out.frozen 7
    have z8 := KV.out.cell 8
    have y8 := KV.out.frozen 8
    have z9 := KV.out.cell 9
    have y9 := KV.out.frozen 9
    have z10 := KV.out.cell 10
    have y10 := KV.out.frozen 10
    simp at z0 z1 z2 z3 z4 z5 z6 z7 z8 z9 z10
    have zlt := KV.out.lt
    go_wp2_with fail
    have hst := store11 KV.out (.int .i64 0) (.int .i64 0) (.int .i64 0) (.int .i64 0) (.int .i64 0) (.int .i64 0) (.int .i64 0) (.int .i64 0) (.bool false) (.slice none 0 0) (.slice none 0 0)
    have hbe := hst.2.below HB.out (Nat.le_refl _)
    clear z0 y0 z1 y1 z2 y2 z3 y3 z4 y4 z5 y5 z6 y6 z7 y7 z8 y8 z9 y9 z10 y10 zlt
    generalize (((((((((((V.setCell ⟨w.heap.size, 0, none⟩ (.int .i64 0)).setCell ⟨w.heap.size, 1, none⟩ (.int .i64 0)).setCell ⟨w.heap.size, 2, none⟩ (.int .i64 0)).setCell ⟨w.heap.size, 3, none⟩ (.int .i64 0)).setCell ⟨w.heap.size, 4, none⟩ (.int .i64 0)).setCell ⟨w.heap.size, 5, none⟩ (.int .i64 0)).setCell ⟨w.heap.size, 6, none⟩ (.int .i64 0)).setCell ⟨w.heap.size, 7, none⟩ (.int .i64 0)).setCell ⟨w.heap.size, 8, none⟩ (.bool false)).setCell ⟨w.heap.size, 9, none⟩ (.slice none 0 0)).setCell ⟨w.heap.size, 10, none⟩ (.slice none 0 0)) = ZZ at hst hbe ⊢
    have q0 := hst.1.cell 0
    have q1 := hst.1.cell 1
    have q2 := hst.1.cell 2
    have q3 := hst.1.cell 3
    have q4 := hst.1.cell 4
    have q5 := hst.1.cell 5
    have q6 := hst.1.cell 6
    have q7 := hst.1.cell 7
    have q8 := hst.1.cell 8
    have q9 := hst.1.cell 9
    have q10 := hst.1.cell 10
    simp at q0 q1 q2 q3 q4 q5 q6 q7 q8 q9 q10
    exact bodyPost_ret (v := .tuple #[zeroM, .int .i64 90]) (by simp [results, Try.results11, go_sem, zeroM, q0, q1, q2, q3, q4, q5, q6, q7, q8, q9, q10]) rfl ⟨rfl, hbe⟩
  rcases f3 with ⟨rfl, ghx⟩ | ⟨rfl, ghx⟩
  case inr =>
    clear ghx HD HNO
    go_enter Try.func11, Try.ntmps11
    go_wp2_with fail
    rw [HVV.out]
    refine CF0.out.mono ?_
    rintro e w1 ⟨rfl, hw⟩
    replace hw := hw.symm
    subst hw
    go_wp2_with fail
    refine CF1.out.mono ?_
    rintro e w1 ⟨rfl, hw⟩
    replace hw := hw.symm
    subst hw
    go_wp2_with fail
    refine CF2.out.mono ?_
    rintro e w1 ⟨rfl, hw⟩
    replace hw := hw.symm
    subst hw
    go_wp2_with fail
    refine CF3.out.mono ?_
    rintro e w1 ⟨rfl, hw⟩
    replace hw := hw.symm
    subst hw
    have z0 := KV.out.cell 0
    have y0 := KV.out.frozen 0
    have z1 := KV.out.cell 1
    have y1 := KV.out.frozen 1
    have z2 := KV.out.cell 2
    have y2 := KV.out.frozen 2
    have z3 := KV.out.cell 3
    have y3 := KV.out.frozen 3
    have z4 := KV.out.cell 4
    have y4 := KV.out.frozen 4
    have z5 := KV.out.cell 5
    have y5 := KV.out.frozen 5
    have z6 := KV.out.cell 6
    have y6 := KV.out.frozen 6
    have z7 := KV.out.cell 7
    have y7 := KV.out.frozen 7
    have z8 := KV.out.cell 8
    have y8 := KV.out.frozen 8
    have z9 := KV.out.cell 9
    have y9 := KV.out.frozen 9
    have z10 := KV.out.cell 10
    have y10 := KV.out.frozen 10
    simp at z0 z1 z2 z3 z4 z5 z6 z7 z8 z9 z10
    have zlt := KV.out.lt
    go_wp2_with fail
    have hst := store11 KV.out (.int .i64 0) (.int .i64 0) (.int .i64 0) (.int .i64 0) (.int .i64 0) (.int .i64 0) (.int .i64 0) (.int .i64 0) (.bool false) (.slice none 0 0) (.slice none 0 0)
    have hbe := hst.2.below HB.out (Nat.le_refl _)
    clear z0 y0 z1 y1 z2 y2 z3 y3 z4 y4 z5 y5 z6 y6 z7 y7 z8 y8 z9 y9 z10 y10 zlt
    generalize (((((((((((V.setCell ⟨w.heap.size, 0, none⟩ (.int .i64 0)).setCell ⟨w.heap.size, 1, none⟩ (.int .i64 0)).setCell ⟨w.heap.size, 2, none⟩ (.int .i64 0)).setCell ⟨w.heap.size, 3, none⟩ (.int .i64 0)).setCell ⟨w.heap.size, 4, none⟩ (.int .i64 0)).setCell ⟨w.heap.size, 5, none⟩ (.int .i64 0)).setCell ⟨w.heap.size, 6, none⟩ (.int .i64 0)).setCell ⟨w.heap.size, 7, none⟩ (.int .i64 0)).setCell ⟨w.heap.size, 8, none⟩ (.bool false)).setCell ⟨w.heap.size, 9, none⟩ (.slice none 0 0)).setCell ⟨w.heap.size, 10, none⟩ (.slice none 0 0)) = ZZ at hst hbe ⊢
    have q0 := hst.1.cell 0
    have q1 := hst.1.cell 1
    have q2 := hst.1.cell 2
    have q3 := hst.1.cell 3
    have q4 := hst.1.cell 4
    have q5 := hst.1.cell 5
    have q6 := hst.1.cell 6
    have q7 := hst.1.cell 7
    have q8 := hst.1.cell 8
    have q9 := hst.1.cell 9
    have q10 := hst.1.cell 10
    simp at q0 q1 q2 q3 q4 q5 q6 q7 q8 q9 q10
    exact bodyPost_ret (v := .tuple #[zeroM, .int .i64 90]) (by simp [results, Try.results11, go_sem, zeroM, q0, q1, q2, q3, q4, q5, q6, q7, q8, q9, q10]) rfl ⟨rfl, hbe⟩
  by_cases zmx : mx.size < 6
  · have zmx' : (mx.size : Int) < 6 := by omega
    clear zmx HD HNO
    go_enter Try.func11, Try.ntmps11
    go_wp2_with fail
    rw [HVV.out]
    refine CF0.out.mono ?_
    rintro e w1 ⟨rfl, hw⟩
    replace hw := hw.symm
    subst hw
    go_wp2_with fail
    refine CF1.out.mono ?_
    rintro e w1 ⟨rfl, hw⟩
    replace hw := hw.symm
    subst hw
    go_wp2_with fail
    refine CF2.out.mono ?_
    rintro e w1 ⟨rfl, hw⟩
    replace hw := hw.symm
    subst hw
    go_wp2_with fail
    refine CF3.out.mono ?_
    rintro e w1 ⟨rfl, hw⟩
    replace hw := hw.symm
    subst hw
    have z0 := KV.out.cell 0
    have y0 := KV.out.frozen 0
    have z1 := KV.out.cell 1
    have y1 := KV.out.frozen 1
    have z2 := KV.out.cell 2
    have y2 := KV.out.frozen 2
    have z3 := KV.out.cell 3
    have y3 := KV.out.frozen 3
    have z4 := KV.out.cell 4
    have y4 := KV.out.frozen 4
    have z5 := KV.out.cell 5
    have y5 := KV.out.frozen 5
    have z6 := KV.out.cell 6
    have y6 := KV.out.frozen 6
    have z7 := KV.out.cell 7
    have y7 := KV.out.frozen 7
    have z8 := KV.out.cell 8
    have y8 := KV.out.frozen 8
    have z9 := KV.out.cell 9
    have y9 := KV.out.frozen 9
    have z10 := KV.out.cell 10
    have y10 := KV.out.frozen 10
    simp at z0 z1 z2 z3 z4 z5 z6 z7 z8 z9 z10
    have zlt := KV.out.lt
    go_wp2_with fail
    have hst := store11 KV.out (.int .i64 0) (.int .i64 0) (.int .i64 0) (.int .i64 0) (.int .i64 0) (.int .i64 0) (.int .i64 0) (.int .i64 0) (.bool false) (.slice none 0 0) (.slice none 0 0)
    have hbe := hst.2.below HB.out (Nat.le_refl _)
    clear z0 y0 z1 y1 z2 y2 z3 y3 z4 y4 z5 y5 z6 y6 z7 y7 z8 y8 z9 y9 z10 y10 zlt
    generalize (((((((((((V.setCell ⟨w.heap.size, 0, none⟩ (.int .i64 0)).setCell ⟨w.heap.size, 1, none⟩ (.int .i64 0)).setCell ⟨w.heap.size, 2, none⟩ (.int .i64 0)).setCell ⟨w.heap.size, 3, none⟩ (.int .i64 0)).setCell ⟨w.heap.size, 4, none⟩ (.int .i64 0)).setCell ⟨w.heap.size, 5, none⟩ (.int .i64 0)).setCell ⟨w.heap.size, 6, none⟩ (.int .i64 0)).setCell ⟨w.heap.size, 7, none⟩ (.int .i64 0)).setCell ⟨w.heap.size, 8, none⟩ (.bool false)).setCell ⟨w.heap.size, 9, none⟩ (.slice none 0 0)).setCell ⟨w.heap.size, 10, none⟩ (.slice none 0 0)) = ZZ at hst hbe ⊢
    have q0 := hst.1.cell 0
    have q1 := hst.1.cell 1
    have q2 := hst.1.cell 2
    have q3 := hst.1.cell 3
    have q4 := hst.1.cell 4
    have q5 := hst.1.cell 5
    have q6 := hst.1.cell 6
    have q7 := hst.1.cell 7
    have q8 := hst.1.cell 8
    have q9 := hst.1.cell 9
    have q10 := hst.1.cell 10
    simp at q0 q1 q2 q3 q4 q5 q6 q7 q8 q9 q10
    exact bodyPost_ret (v := .tuple #[zeroM, .int .i64 90]) (by simp [results, Try.results11, go_sem, zeroM, q0, q1, q2, q3, q4, q5, q6, q7, q8, q9, q10]) rfl ⟨rfl, hbe⟩
  have zmx' : ¬ (mx.size : Int) < 6 := by omega
  by_cases zhd : hd.size < 54
  · have zhd' : (hd.size : Int) < 54 := by omega
    clear zhd HD HNO
    go_enter Try.func11, Try.ntmps11
    go_wp2_with fail
    rw [HVV.out]
    refine CF0.out.mono ?_
    rintro e w1 ⟨rfl, hw⟩
    replace hw := hw.symm
    subst hw
    go_wp2_with fail
    refine CF1.out.mono ?_
    rintro e w1 ⟨rfl, hw⟩
    replace hw := hw.symm
    subst hw
    go_wp2_with fail
    refine CF2.out.mono ?_
    rintro e w1 ⟨rfl, hw⟩
    replace hw := hw.symm
    subst hw
    go_wp2_with fail
    refine CF3.out.mono ?_
    rintro e w1 ⟨rfl, hw⟩
    replace hw := hw.symm
    subst hw
    have z0 := KV.out.cell 0
    have y0 := KV.out.frozen 0
    have z1 := KV.out.cell 1
    have y1 := KV.out.frozen 1
    have z2 := KV.out.cell 2
    have y2 := KV.out.frozen 2
    have z3 := KV.out.cell 3
    have y3 := KV.out.frozen 3
    have z4 := KV.out.cell 4
    have y4 := KV.out.frozen 4
    have z5 := KV.out.cell 5
    have y5 := KV.out.frozen 5
    have z6 := KV.out.cell 6
    have y6 := KV.out.frozen 6
    have z7 := KV.out.cell 7
    have y7 := KV.out.frozen 7
    have z8 := KV.out.cell 8
    have y8 := KV.out.frozen 8
    have z9 := KV.out.cell 9
    have y9 := KV.out.frozen 9
    have z10 := KV.out.cell 10
    have y10 := KV.out.frozen 10
    simp at z0 z1 z2 z3 z4 z5 z6 z7 z8 z9 z10
    have zlt := KV.out.lt
    go_wp2_with fail
    have hst := store11 KV.out (.int .i64 0) (.int .i64 0) (.int .i64 0) (.int .i64 0) (.int .i64 0) (.int .i64 0) (.int .i64 0) (.int .i64 0) (.bool false) (.slice none 0 0) (.slice none 0 0)
    have hbe := hst.2.below HB.out (Nat.le_refl _)
    clear z0 y0 z1 y1 z2 y2 z3 y3 z4 y4 z5 y5 z6 y6 z7 y7 z8 y8 z9 y9 z10 y10 zlt
    generalize (((((((((((V.setCell ⟨w.heap.size, 0, none⟩ (.int .i64 0)).setCell ⟨w.heap.size, 1, none⟩ (.int .i64 0)).setCell ⟨w.heap.size, 2, none⟩ (.int .i64 0)).setCell ⟨w.heap.size, 3, none⟩ (.int .i64 0)).setCell ⟨w.heap.size, 4, none⟩ (.int .i64 0)).setCell ⟨w.heap.size, 5, none⟩ (.int .i64 0)).setCell ⟨w.heap.size, 6, none⟩ (.int .i64 0)).setCell ⟨w.heap.size, 7, none⟩ (.int .i64 0)).setCell ⟨w.heap.size, 8, none⟩ (.bool false)).setCell ⟨w.heap.size, 9, none⟩ (.slice none 0 0)).setCell ⟨w.heap.size, 10, none⟩ (.slice none 0 0)) = ZZ at hst hbe ⊢
    have q0 := hst.1.cell 0
    have q1 := hst.1.cell 1
    have q2 := hst.1.cell 2
    have q3 := hst.1.cell 3
    have q4 := hst.1.cell 4
    have q5 := hst.1.cell 5
    have q6 := hst.1.cell 6
    have q7 := hst.1.cell 7
    have q8 := hst.1.cell 8
    have q9 := hst.1.cell 9
    have q10 := hst.1.cell 10
    simp at q0 q1 q2 q3 q4 q5 q6 q7 q8 q9 q10
    exact bodyPost_ret (v := .tuple #[zeroM, .int .i64 90]) (by simp [results, Try.results11, go_sem, zeroM, q0, q1, q2, q3, q4, q5, q6, q7, q8, q9, q10]) rfl ⟨rfl, hbe⟩
  have zhd' : ¬ (hd.size : Int) < 54 := by omega
  by_cases zhh : hh.size < 36
  · have zhh' : (hh.size : Int) < 36 := by omega
    clear zhh HD HNO
    go_enter Try.func11, Try.ntmps11
    go_wp2_with fail
    rw [HVV.out]
    refine CF0.out.mono ?_
    rintro e w1 ⟨rfl, hw⟩
    replace hw := hw.symm
    subst hw
    go_wp2_with fail
    refine CF1.out.mono ?_
    rintro e w1 ⟨rfl, hw⟩
    replace hw := hw.symm
    subst hw
    go_wp2_with fail
    refine CF2.out.mono ?_
    rintro e w1 ⟨rfl, hw⟩
    replace hw := hw.symm
    subst hw
    go_wp2_with fail
    refine CF3.out.mono ?_
    rintro e w1 ⟨rfl, hw⟩
    replace hw := hw.symm
    subst hw
    have z0 := KV.out.cell 0
    have y0 := KV.out.frozen 0
    have z1 := KV.out.cell 1
    have y1 := KV.out.frozen 1
    have z2 := KV.out.cell 2
    have y2 := KV.out.frozen 2
    have z3 := KV.out.cell 3
    have y3 := KV.out.frozen 3
    have z4 := KV.out.cell 4
    have y4 := KV.out.frozen 4
    have z5 := KV.out.cell 5
    have y5 := KV.out.frozen 5
    have z6 := KV.out.cell 6
    have y6 := KV.out.frozen 6
    have z7 := KV.out.cell 7
    have y7 := KV.out.frozen 7
    have z8 := KV.out.cell 8
    have y8 := KV.out.frozen 8
    have z9 := KV.out.cell 9
    have y9 := KV.out.frozen 9
    have z10 := KV.out.cell 10
    have y10 := KV.out.frozen 10
    simp at z0 z1 z2 z3 z4 z5 z6 z7 z8 z9 z10
    have zlt := KV.out.lt
    go_wp2_with fail
    have hst := store11 KV.out (.int .i64 0) (.int .i64 0) (.int .i64 0) (.int .i64 0) (.int .i64 0) (.int .i64 0) (.int .i64 0) (.int .i64 0) (.bool false) (.slice none 0 0) (.slice none 0 0)
    have hbe := hst.2.below HB.out (Nat.le_refl _)
    clear z0 y0 z1 y1 z2 y2 z3 y3 z4 y4 z5 y5 z6 y6 z7 y7 z8 y8 z9 y9 z10 y10 zlt
    generalize (((((((((((V.setCell ⟨w.heap.size, 0, none⟩ (.int .i64 0)).setCell ⟨w.heap.size, 1, none⟩ (.int .i64 0)).setCell ⟨w.heap.size, 2, none⟩ (.int .i64 0)).setCell ⟨w.heap.size, 3, none⟩ (.int .i64 0)).setCell ⟨w.heap.size, 4, none⟩ (.int .i64 0)).setCell ⟨w.heap.size, 5, none⟩ (.int .i64 0)).setCell ⟨w.heap.size, 6, none⟩ (.int .i64 0)).setCell ⟨w.heap.size, 7, none⟩ (.int .i64 0)).setCell ⟨w.heap.size, 8, none⟩ (.bool false)).setCell ⟨w.heap.size, 9, none⟩ (.slice none 0 0)).setCell ⟨w.heap.size, 10, none⟩ (.slice none 0 0)) = ZZ at hst hbe ⊢
    have q0 := hst.1.cell 0
    have q1 := hst.1.cell 1
    have q2 := hst.1.cell 2
    have q3 := hst.1.cell 3
    have q4 := hst.1.cell 4
    have q5 := hst.1.cell 5
    have q6 := hst.1.cell 6
    have q7 := hst.1.cell 7
    have q8 := hst.1.cell 8
    have q9 := hst.1.cell 9
    have q10 := hst.1.cell 10
    simp at q0 q1 q2 q3 q4 q5 q6 q7 q8 q9 q10
    exact bodyPost_ret (v := .tuple #[zeroM, .int .i64 90]) (by simp [results, Try.results11, go_sem, zeroM, q0, q1, q2, q3, q4, q5, q6, q7, q8, q9, q10]) rfl ⟨rfl, hbe⟩
  have zhh' : ¬ (hh.size : Int) < 36 := by omega
  have ymx := fin_size HD.out gmx
  have yhd := fin_size HD.out ghd
  have yhh := fin_size HD.out ghh
  have yhx := fin_size HD.out ghx
  have CN := hide (u2_let mx 4 (by omega) ymx)
  have CH := hide (u2_let hh 34 (by omega) yhh)
  have CU := hide (u2_let hd 18 (by omega) yhd)
  have CO := hide (u2_let hd 50 (by omega) yhd)
  have C52 := hide (u2_let hd 52 (by omega) yhd)
  have C32 := hide (u2_let hh 32 (by omega) yhh)
  have kmx : (4 : Int) ≤ (mx.size : Int) := by omega
  have khd : (16 : Int) ≤ (hd.size : Int) := by omega
  have khd4 : (4 : Int) ≤ (hd.size : Int) := by omega
  have khh : (4 : Int) ≤ (hh.size : Int) := by omega
  have lmx : (mx.size : Int) ≤ 1073741824 := by omega
  have lhd : (hd.size : Int) ≤ 1073741824 := by omega
  have lhh : (hh.size : Int) ≤ 1073741824 := by omega
  have lhx : (hx.size : Int) ≤ 1073741824 := by omega
  have ALL : Hid (allB mx hd hh hx = false) := hide (by
    cases h : allB mx hd hh hx with
    | false => rfl
    | true => have := rdv_yes gmx ghd ghh ghx h; rw [HNO.out] at this; cases this)
  obtain ⟨LB, hLB⟩ : ∃ LB : Bool, decide (4 * hV hh + 2 * (nV mx - hV hh) ≤ hx.size) = LB := ⟨_, rfl⟩
  have EALL : Hid (allB mx hd hh hx = (mxB mx && (hdB hd && (hhB hh ((n2 mx.data.toList 4 : Nat) : Int) && LB)))) := hide (by
    unfold allB
    rw [show decide (6 ≤ mx.size) = true by simp; omega, show decide (54 ≤ hd.size) = true by simp; omega, show decide (36 ≤ hh.size) = true by simp; omega, hLB]
    simp)
  have EMX : Hid (mxB mx = ((sayB mx 0 halfS || sayB mx 0 verS) && wiB 1 4096 [((n2 mx.data.toList 4 : Nat) : Int)])) := hide rfl
  have EHD : Hid (hdB hd = (sayB hd 0 verS && sayB hd 12 magicS && wiB 16 16384 [((n2 hd.data.toList 18 : Nat) : Int)] && wiB 0 1 [((n2 hd.data.toList 50 : Nat) : Int)] && (((n2 hd.data.toList 52 : Nat) : Int) == 0))) := hide rfl
  have EHH : Hid (hhB hh ((n2 mx.data.toList 4 : Nat) : Int) = (sayB hh 0 verS && (((n2 hh.data.toList 32 : Nat) : Int) == 0) && wiB 1 ((n2 mx.data.toList 4 : Nat) : Int) [((n2 hh.data.toList 34 : Nat) : Int)])) := hide rfl
  have P1 := hide (say4 mx halfS 0 [0, 0, 80, 0] (by decide) rfl)
  have P2 := hide (say4 mx verS 0 [0, 1, 0, 0] (by decide) rfl)
  have P3 := hide (say4 hd verS 0 [0, 1, 0, 0] (by decide) rfl)
  have P4 := hide (say4 hd magicS 12 [95, 15, 60, 245] (by decide) rfl)
  have P5 := hide (say4 hh verS 0 [0, 1, 0, 0] (by decide) rfl)
  have bN := n2_lt mx.data.toList 4
  have bH := n2_lt hh.data.toList 34
  have bU := n2_lt hd.data.toList 18
  have bO := n2_lt hd.data.toList 50
  obtain ⟨N, hN⟩ : ∃ N, n2 mx.data.toList 4 = N := ⟨_, rfl⟩
  obtain ⟨H, hH⟩ : ∃ N, n2 hh.data.toList 34 = N := ⟨_, rfl⟩
  obtain ⟨UU, hU⟩ : ∃ N, n2 hd.data.toList 18 = N := ⟨_, rfl⟩
  obtain ⟨OO, hO⟩ : ∃ N, n2 hd.data.toList 50 = N := ⟨_, rfl⟩
  obtain ⟨X52, h52⟩ : ∃ N, n2 hd.data.toList 52 = N := ⟨_, rfl⟩
  obtain ⟨X32, h32⟩ : ∃ N, n2 hh.data.toList 32 = N := ⟨_, rfl⟩
  have EL : Hid (LB = false → (hx.size : Int) < 4 * (H : Int) + 2 * ((N : Int) - (H : Int)) ∨ N < H) := hide fun h => by
    rw [h] at hLB
    have e1 : hV hh = H := hH
    have e2 : nV mx = N := hN
    rw [e1, e2] at hLB
    simp at hLB
    omega
  rw [hN] at CN EALL EMX EHH bN
  rw [hH] at CH EHH bH
  rw [hU] at CU EHD bU
  rw [hO] at CO EHD bO
  rw [h52] at C52 EHD
  rw [h32] at C32 EHH
  clear hLB hN hH hU hO h52 h32
  have bN' : (N : Int) ≤ 65535 := by omega
  have bH' : (H : Int) ≤ 65535 := by omega
  have bU' : (UU : Int) ≤ 65535 := by omega
  have bO' : (OO : Int) ≤ 65535 := by omega
  clear zmx zhd zhh ymx yhd yhh yhx HD HNO gmx ghd ghh ghx bN bH bU bO
  cases qA : sayB mx 0 halfS
  · cases qB : sayB mx 0 verS
    · have jA : ((mx.extract 0 4).toList == [0, 0, 80, 0]) = false := by have h := P1.out; rw [qA] at h; exact h.symm
      have iA : ((mx.extract 0 4).toList != [0, 0, 80, 0]) = true := by unfold bne; rw [jA]; rfl
      have jB : ((mx.extract 0 4).toList == [0, 1, 0, 0]) = false := by have h := P2.out; rw [qB] at h; exact h.symm
      have iB : ((mx.extract 0 4).toList != [0, 1, 0, 0]) = true := by unfold bne; rw [jB]; rfl
      clear ALL EALL EMX EHD EHH EL P1 P2 P3 P4 P5
      go_enter Try.func11, Try.ntmps11
      go_wp2_with fail
      rw [HVV.out]
      refine CF0.out.mono ?_
      rintro e w1 ⟨rfl, hw⟩
      replace hw := hw.symm
      subst hw
      go_wp2_with fail
      refine CF1.out.mono ?_
      rintro e w1 ⟨rfl, hw⟩
      replace hw := hw.symm
      subst hw
      go_wp2_with fail
      refine CF2.out.mono ?_
      rintro e w1 ⟨rfl, hw⟩
      replace hw := hw.symm
      subst hw
      go_wp2_with fail
      refine CF3.out.mono ?_
      rintro e w1 ⟨rfl, hw⟩
      replace hw := hw.symm
      subst hw
      go_wp2_with fail
      refine (CN.out _).mono ?_
      rintro e w1 ⟨rfl, m, hw⟩
      have kvn : Blk w1 w.heap.size zeroC 28 := by rw [hw]; exact KV.out.drewN m
      have hbn : Below w.heap.size w w1 := by rw [hw]; exact below_drewN HB.out m
      replace KV := hide kvn
      replace HB := hide hbn
      clear hw kvn hbn
      go_wp2_with fail
      refine (CH.out _).mono ?_
      rintro e w1 ⟨rfl, m, hw⟩
      have kvn : Blk w1 w.heap.size zeroC 28 := by rw [hw]; exact KV.out.drewN m
      have hbn : Below w.heap.size w w1 := by rw [hw]; exact below_drewN HB.out m
      replace KV := hide kvn
      replace HB := hide hbn
      clear hw kvn hbn
      go_wp2_with fail
      refine (CU.out _).mono ?_
      rintro e w1 ⟨rfl, m, hw⟩
      have kvn : Blk w1 w.heap.size zeroC 28 := by rw [hw]; exact KV.out.drewN m
      have hbn : Below w.heap.size w w1 := by rw [hw]; exact below_drewN HB.out m
      replace KV := hide kvn
      replace HB := hide hbn
      clear hw kvn hbn
      go_wp2_with fail
      refine (CO.out _).mono ?_
      rintro e w1 ⟨rfl, m, hw⟩
      have kvn : Blk w1 w.heap.size zeroC 28 := by rw [hw]; exact KV.out.drewN m
      have hbn : Below w.heap.size w w1 := by rw [hw]; exact below_drewN HB.out m
      replace KV := hide kvn
      replace HB := hide hbn
      clear hw kvn hbn
      have z0 := KV.out.cell 0
      have y0 := KV.out.frozen 0
      have z1 := KV.out.cell 1
      have y1 := KV.out.frozen 1
      have z2 := KV.out.cell 2
      have y2 := KV.out.frozen 2
      have z3 := KV.out.cell 3
      have y3 := KV.out.frozen 3
      have z4 := KV.out.cell 4
      have y4 := KV.out.frozen 4
      have z5 := KV.out.cell 5
      have y5 := KV.out.frozen 5
      have z6 := KV.out.cell 6
      have y6 := KV.out.frozen 6
      have z7 := KV.out.cell 7
      have y7 := KV.out.frozen 7
      have z8 := KV.out.cell 8
      have y8 := KV.out.frozen 8
      have z9 := KV.out.cell 9
      have y9 := KV.out.frozen 9
      have z10 := KV.out.cell 10
      have y10 := KV.out.frozen 10
      simp at z0 z1 z2 z3 z4 z5 z6 z7 z8 z9 z10
      have zlt := KV.out.lt
      go_wp2_with fail
      have hst := store11 KV.out (.int .i64 0) (.int .i64 0) (.int .i64 0) (.int .i64 0) (.int .i64 0) (.int .i64 0) (.int .i64 0) (.int .i64 0) (.bool false) (.slice none 0 0) (.slice none 0 0)
      have hbe := hst.2.below HB.out (Nat.le_refl _)
      clear z0 y0 z1 y1 z2 y2 z3 y3 z4 y4 z5 y5 z6 y6 z7 y7 z8 y8 z9 y9 z10 y10 zlt
      generalize (((((((((((w1.setCell ⟨w.heap.size, 0, none⟩ (.int .i64 0)).setCell ⟨w.heap.size, 1, none⟩ (.int .i64 0)).setCell ⟨w.heap.size, 2, none⟩ (.int .i64 0)).setCell ⟨w.heap.size, 3, none⟩ (.int .i64 0)).setCell ⟨w.heap.size, 4, none⟩ (.int .i64 0)).setCell ⟨w.heap.size, 5, none⟩ (.int .i64 0)).setCell ⟨w.heap.size, 6, none⟩ (.int .i64 0)).setCell ⟨w.heap.size, 7, none⟩ (.int .i64 0)).setCell ⟨w.heap.size, 8, none⟩ (.bool false)).setCell ⟨w.heap.size, 9, none⟩ (.slice none 0 0)).setCell ⟨w.heap.size, 10, none⟩ (.slice none 0 0)) = ZZ at hst hbe ⊢
      have q0 := hst.1.cell 0
      have q1 := hst.1.cell 1
      have q2 := hst.1.cell 2
      have q3 := hst.1.cell 3
      have q4 := hst.1.cell 4
      have q5 := hst.1.cell 5
      have q6 := hst.1.cell 6
      have q7 := hst.1.cell 7
      have q8 := hst.1.cell 8
      have q9 := hst.1.cell 9
      have q10 := hst.1.cell 10
      simp at q0 q1 q2 q3 q4 q5 q6 q7 q8 q9 q10
      exact bodyPost_ret (v := .tuple #[zeroM, .int .i64 90]) (by simp [results, Try.results11, go_sem, zeroM, q0, q1, q2, q3, q4, q5, q6, q7, q8, q9, q10]) rfl ⟨rfl, hbe⟩
    · have jA : ((mx.extract 0 4).toList == [0, 0, 80, 0]) = false := by have h := P1.out; rw [qA] at h; exact h.symm
      have iA : ((mx.extract 0 4).toList != [0, 0, 80, 0]) = true := by unfold bne; rw [jA]; rfl
      have jB : ((mx.extract 0 4).toList == [0, 1, 0, 0]) = true := by have h := P2.out; rw [qB] at h; exact h.symm
      have iB : ((mx.extract 0 4).toList != [0, 1, 0, 0]) = false := by unfold bne; rw [jB]; rfl
      rw [qA, qB] at EMX
      simp only [Bool.or_true, Bool.true_or, Bool.true_and] at EMX
      by_cases n1 : N < 1
      · have n1' : (N : Int) < 1 := by omega
        clear ALL EALL EMX EHD EHH EL P1 P2 P3 P4 P5
        go_enter Try.func11, Try.ntmps11
        go_wp2_with fail
        rw [HVV.out]
        refine CF0.out.mono ?_
        rintro e w1 ⟨rfl, hw⟩
        replace hw := hw.symm
        subst hw
        go_wp2_with fail
        refine CF1.out.mono ?_
        rintro e w1 ⟨rfl, hw⟩
        replace hw := hw.symm
        subst hw
        go_wp2_with fail
        refine CF2.out.mono ?_
        rintro e w1 ⟨rfl, hw⟩
        replace hw := hw.symm
        subst hw
        go_wp2_with fail
        refine CF3.out.mono ?_
        rintro e w1 ⟨rfl, hw⟩
        replace hw := hw.symm
        subst hw
        go_wp2_with fail
        refine (CN.out _).mono ?_
        rintro e w1 ⟨rfl, m, hw⟩
        have kvn : Blk w1 w.heap.size zeroC 28 := by rw [hw]; exact KV.out.drewN m
        have hbn : Below w.heap.size w w1 := by rw [hw]; exact below_drewN HB.out m
        replace KV := hide kvn
        replace HB := hide hbn
        clear hw kvn hbn
        go_wp2_with fail
        refine (CH.out _).mono ?_
        rintro e w1 ⟨rfl, m, hw⟩
        have kvn : Blk w1 w.heap.size zeroC 28 := by rw [hw]; exact KV.out.drewN m
        have hbn : Below w.heap.size w w1 := by rw [hw]; exact below_drewN HB.out m
        replace KV := hide kvn
        replace HB := hide hbn
        clear hw kvn hbn
        go_wp2_with fail
        refine (CU.out _).mono ?_
        rintro e w1 ⟨rfl, m, hw⟩
        have kvn : Blk w1 w.heap.size zeroC 28 := by rw [hw]; exact KV.out.drewN m
        have hbn : Below w.heap.size w w1 := by rw [hw]; exact below_drewN HB.out m
        replace KV := hide kvn
        replace HB := hide hbn
        clear hw kvn hbn
        go_wp2_with fail
        refine (CO.out _).mono ?_
        rintro e w1 ⟨rfl, m, hw⟩
        have kvn : Blk w1 w.heap.size zeroC 28 := by rw [hw]; exact KV.out.drewN m
        have hbn : Below w.heap.size w w1 := by rw [hw]; exact below_drewN HB.out m
        replace KV := hide kvn
        replace HB := hide hbn
        clear hw kvn hbn
        have z0 := KV.out.cell 0
        have y0 := KV.out.frozen 0
        have z1 := KV.out.cell 1
        have y1 := KV.out.frozen 1
        have z2 := KV.out.cell 2
        have y2 := KV.out.frozen 2
        have z3 := KV.out.cell 3
        have y3 := KV.out.frozen 3
        have z4 := KV.out.cell 4
        have y4 := KV.out.frozen 4
        have z5 := KV.out.cell 5
        have y5 := KV.out.frozen 5
        have z6 := KV.out.cell 6
        have y6 := KV.out.frozen 6
        have z7 := KV.out.cell 7
        have y7 := KV.out.frozen 7
        have z8 := KV.out.cell 8
        have y8 := KV.out.frozen 8
        have z9 := KV.out.cell 9
        have y9 := KV.out.frozen 9
        have z10 := KV.out.cell 10
        have y10 := KV.out.frozen 10
        simp at z0 z1 z2 z3 z4 z5 z6 z7 z8 z9 z10
        have zlt := KV.out.lt
        go_wp2_with fail
        have hst := store11 KV.out (.int .i64 0) (.int .i64 0) (.int .i64 0) (.int .i64 0) (.int .i64 0) (.int .i64 0) (.int .i64 0) (.int .i64 0) (.bool false) (.slice none 0 0) (.slice none 0 0)
        have hbe := hst.2.below HB.out (Nat.le_refl _)
        clear z0 y0 z1 y1 z2 y2 z3 y3 z4 y4 z5 y5 z6 y6 z7 y7 z8 y8 z9 y9 z10 y10 zlt
        generalize (((((((((((w1.setCell ⟨w.heap.size, 0, none⟩ (.int .i64 0)).setCell ⟨w.heap.size, 1, none⟩ (.int .i64 0)).setCell ⟨w.heap.size, 2, none⟩ (.int .i64 0)).setCell ⟨w.heap.size, 3, none⟩ (.int .i64 0)).setCell ⟨w.heap.size, 4, none⟩ (.int .i64 0)).setCell ⟨w.heap.size, 5, none⟩ (.int .i64 0)).setCell ⟨w.heap.size, 6, none⟩ (.int .i64 0)).setCell ⟨w.heap.size, 7, none⟩ (.int .i64 0)).setCell ⟨w.heap.size, 8, none⟩ (.bool false)).setCell ⟨w.heap.size, 9, none⟩ (.slice none 0 0)).setCell ⟨w.heap.size, 10, none⟩ (.slice none 0 0)) = ZZ at hst hbe ⊢
        have q0 := hst.1.cell 0
        have q1 := hst.1.cell 1
        have q2 := hst.1.cell 2
        have q3 := hst.1.cell 3
        have q4 := hst.1.cell 4
        have q5 := hst.1.cell 5
        have q6 := hst.1.cell 6
        have q7 := hst.1.cell 7
        have q8 := hst.1.cell 8
        have q9 := hst.1.cell 9
        have q10 := hst.1.cell 10
        simp at q0 q1 q2 q3 q4 q5 q6 q7 q8 q9 q10
        exact bodyPost_ret (v := .tuple #[zeroM, .int .i64 90]) (by simp [results, Try.results11, go_sem, zeroM, q0, q1, q2, q3, q4, q5, q6, q7, q8, q9, q10]) rfl ⟨rfl, hbe⟩
      have n1' : ¬ (N : Int) < 1 := by omega
      by_cases n2' : 4096 < N
      · have n3 : (4096 : Int) < (N : Int) := by omega
        clear n2'
        clear ALL EALL EMX EHD EHH EL P1 P2 P3 P4 P5
        go_enter Try.func11, Try.ntmps11
        go_wp2_with fail
        rw [HVV.out]
        refine CF0.out.mono ?_
        rintro e w1 ⟨rfl, hw⟩
        replace hw := hw.symm
        subst hw
        go_wp2_with fail
        refine CF1.out.mono ?_
        rintro e w1 ⟨rfl, hw⟩
        replace hw := hw.symm
        subst hw
        go_wp2_with fail
        refine CF2.out.mono ?_
        rintro e w1 ⟨rfl, hw⟩
        replace hw := hw.symm
        subst hw
        go_wp2_with fail
        refine CF3.out.mono ?_
        rintro e w1 ⟨rfl, hw⟩
        replace hw := hw.symm
        subst hw
        go_wp2_with fail
        refine (CN.out _).mono ?_
        rintro e w1 ⟨rfl, m, hw⟩
        have kvn : Blk w1 w.heap.size zeroC 28 := by rw [hw]; exact KV.out.drewN m
        have hbn : Below w.heap.size w w1 := by rw [hw]; exact below_drewN HB.out m
        replace KV := hide kvn
        replace HB := hide hbn
        clear hw kvn hbn
        go_wp2_with fail
        refine (CH.out _).mono ?_
        rintro e w1 ⟨rfl, m, hw⟩
        have kvn : Blk w1 w.heap.size zeroC 28 := by rw [hw]; exact KV.out.drewN m
        have hbn : Below w.heap.size w w1 := by rw [hw]; exact below_drewN HB.out m
        replace KV := hide kvn
        replace HB := hide hbn
        clear hw kvn hbn
        go_wp2_with fail
        refine (CU.out _).mono ?_
        rintro e w1 ⟨rfl, m, hw⟩
        have kvn : Blk w1 w.heap.size zeroC 28 := by rw [hw]; exact KV.out.drewN m
        have hbn : Below w.heap.size w w1 := by rw [hw]; exact below_drewN HB.out m
        replace KV := hide kvn
        replace HB := hide hbn
        clear hw kvn hbn
        go_wp2_with fail
        refine (CO.out _).mono ?_
        rintro e w1 ⟨rfl, m, hw⟩
        have kvn : Blk w1 w.heap.size zeroC 28 := by rw [hw]; exact KV.out.drewN m
        have hbn : Below w.heap.size w w1 := by rw [hw]; exact below_drewN HB.out m
        replace KV := hide kvn
        replace HB := hide hbn
        clear hw kvn hbn
        have z0 := KV.out.cell 0
        have y0 := KV.out.frozen 0
        have z1 := KV.out.cell 1
        have y1 := KV.out.frozen 1
        have z2 := KV.out.cell 2
        have y2 := KV.out.frozen 2
        have z3 := KV.out.cell 3
        have y3 := KV.out.frozen 3
        have z4 := KV.out.cell 4
        have y4 := KV.out.frozen 4
        have z5 := KV.out.cell 5
        have y5 := KV.out.frozen 5
        have z6 := KV.out.cell 6
        have y6 := KV.out.frozen 6
        have z7 := KV.out.cell 7
        have y7 := KV.out.frozen 7
        have z8 := KV.out.cell 8
        have y8 := KV.out.frozen 8
        have z9 := KV.out.cell 9
        have y9 := KV.out.frozen 9
        have z10 := KV.out.cell 10
        have y10 := KV.out.frozen 10
        simp at z0 z1 z2 z3 z4 z5 z6 z7 z8 z9 z10
        have zlt := KV.out.lt
        go_wp2_with fail
        have hst := store11 KV.out (.int .i64 0) (.int .i64 0) (.int .i64 0) (.int .i64 0) (.int .i64 0) (.int .i64 0) (.int .i64 0) (.int .i64 0) (.bool false) (.slice none 0 0) (.slice none 0 0)
        have hbe := hst.2.below HB.out (Nat.le_refl _)
        clear z0 y0 z1 y1 z2 y2 z3 y3 z4 y4 z5 y5 z6 y6 z7 y7 z8 y8 z9 y9 z10 y10 zlt
        generalize (((((((((((w1.setCell ⟨w.heap.size, 0, none⟩ (.int .i64 0)).setCell ⟨w.heap.size, 1, none⟩ (.int .i64 0)).setCell ⟨w.heap.size, 2, none⟩ (.int .i64 0)).setCell ⟨w.heap.size, 3, none⟩ (.int .i64 0)).setCell ⟨w.heap.size, 4, none⟩ (.int .i64 0)).setCell ⟨w.heap.size, 5, none⟩ (.int .i64 0)).setCell ⟨w.heap.size, 6, none⟩ (.int .i64 0)).setCell ⟨w.heap.size, 7, none⟩ (.int .i64 0)).setCell ⟨w.heap.size, 8, none⟩ (.bool false)).setCell ⟨w.heap.size, 9, none⟩ (.slice none 0 0)).setCell ⟨w.heap.size, 10, none⟩ (.slice none 0 0)) = ZZ at hst hbe ⊢
        have q0 := hst.1.cell 0
        have q1 := hst.1.cell 1
        have q2 := hst.1.cell 2
        have q3 := hst.1.cell 3
        have q4 := hst.1.cell 4
        have q5 := hst.1.cell 5
        have q6 := hst.1.cell 6
        have q7 := hst.1.cell 7
        have q8 := hst.1.cell 8
        have q9 := hst.1.cell 9
        have q10 := hst.1.cell 10
        simp at q0 q1 q2 q3 q4 q5 q6 q7 q8 q9 q10
        exact bodyPost_ret (v := .tuple #[zeroM, .int .i64 90]) (by simp [results, Try.results11, go_sem, zeroM, q0, q1, q2, q3, q4, q5, q6, q7, q8, q9, q10]) rfl ⟨rfl, hbe⟩
      have n3 : ¬ (4096 : Int) < (N : Int) := by omega
      have tmx : mxB mx = true := by rw [EMX.out]; exact wiB_t1 (by omega) (by omega)
      rw [tmx, Bool.true_and] at EALL
      clear n1 n2' tmx EMX
      cases qC : sayB hd 0 verS
      · have jC : ((hd.extract 0 4).toList == [0, 1, 0, 0]) = false := by have h := P3.out; rw [qC] at h; exact h.symm
        have iC : ((hd.extract 0 4).toList != [0, 1, 0, 0]) = true := by unfold bne; rw [jC]; rfl
        clear ALL EALL EHD EHH EL P1 P2 P3 P4 P5
        go_enter Try.func11, Try.ntmps11
        go_wp2_with fail
        rw [HVV.out]
        refine CF0.out.mono ?_
        rintro e w1 ⟨rfl, hw⟩
        replace hw := hw.symm
        subst hw
        go_wp2_with fail
        refine CF1.out.mono ?_
        rintro e w1 ⟨rfl, hw⟩
        replace hw := hw.symm
        subst hw
        go_wp2_with fail
        refine CF2.out.mono ?_
        rintro e w1 ⟨rfl, hw⟩
        replace hw := hw.symm
        subst hw
        go_wp2_with fail
        refine CF3.out.mono ?_
        rintro e w1 ⟨rfl, hw⟩
        replace hw := hw.symm
        subst hw
        go_wp2_with fail
        refine (CN.out _).mono ?_
        rintro e w1 ⟨rfl, m, hw⟩
        have kvn : Blk w1 w.heap.size zeroC 28 := by rw [hw]; exact KV.out.drewN m
        have hbn : Below w.heap.size w w1 := by rw [hw]; exact below_drewN HB.out m
        replace KV := hide kvn
        replace HB := hide hbn
        clear hw kvn hbn
        go_wp2_with fail
        refine (CH.out _).mono ?_
        rintro e w1 ⟨rfl, m, hw⟩
        have kvn : Blk w1 w.heap.size zeroC 28 := by rw [hw]; exact KV.out.drewN m
        have hbn : Below w.heap.size w w1 := by rw [hw]; exact below_drewN HB.out m
        replace KV := hide kvn
        replace HB := hide hbn
        clear hw kvn hbn
        go_wp2_with fail
        refine (CU.out _).mono ?_
        rintro e w1 ⟨rfl, m, hw⟩
        have kvn : Blk w1 w.heap.size zeroC 28 := by rw [hw]; exact KV.out.drewN m
        have hbn : Below w.heap.size w w1 := by rw [hw]; exact below_drewN HB.out m
        replace KV := hide kvn
        replace HB := hide hbn
        clear hw kvn hbn
        go_wp2_with fail
        refine (CO.out _).mono ?_
        rintro e w1 ⟨rfl, m, hw⟩
        have kvn : Blk w1 w.heap.size zeroC 28 := by rw [hw]; exact KV.out.drewN m
        have hbn : Below w.heap.size w w1 := by rw [hw]; exact below_drewN HB.out m
        replace KV := hide kvn
        replace HB := hide hbn
        clear hw kvn hbn
        have z0 := KV.out.cell 0
        have y0 := KV.out.frozen 0
        have z1 := KV.out.cell 1
        have y1 := KV.out.frozen 1
        have z2 := KV.out.cell 2
        have y2 := KV.out.frozen 2
        have z3 := KV.out.cell 3
        have y3 := KV.out.frozen 3
        have z4 := KV.out.cell 4
        have y4 := KV.out.frozen 4
        have z5 := KV.out.cell 5
        have y5 := KV.out.frozen 5
        have z6 := KV.out.cell 6
        have y6 := KV.out.frozen 6
        have z7 := KV.out.cell 7
        have y7 := KV.out.frozen 7
        have z8 := KV.out.cell 8
        have y8 := KV.out.frozen 8
        have z9 := KV.out.cell 9
        have y9 := KV.out.frozen 9
        have z10 := KV.out.cell 10
        have y10 := KV.out.frozen 10
        simp at z0 z1 z2 z3 z4 z5 z6 z7 z8 z9 z10
        have zlt := KV.out.lt
        go_wp2_with fail
        have hst := store11 KV.out (.int .i64 0) (.int .i64 0) (.int .i64 0) (.int .i64 0) (.int .i64 0) (.int .i64 0) (.int .i64 0) (.int .i64 0) (.bool false) (.slice none 0 0) (.slice none 0 0)
        have hbe := hst.2.below HB.out (Nat.le_refl _)
        clear z0 y0 z1 y1 z2 y2 z3 y3 z4 y4 z5 y5 z6 y6 z7 y7 z8 y8 z9 y9 z10 y10 zlt
        generalize (((((((((((w1.setCell ⟨w.heap.size, 0, none⟩ (.int .i64 0)).setCell ⟨w.heap.size, 1, none⟩ (.int .i64 0)).setCell ⟨w.heap.size, 2, none⟩ (.int .i64 0)).setCell ⟨w.heap.size, 3, none⟩ (.int .i64 0)).setCell ⟨w.heap.size, 4, none⟩ (.int .i64 0)).setCell ⟨w.heap.size, 5, none⟩ (.int .i64 0)).setCell ⟨w.heap.size, 6, none⟩ (.int .i64 0)).setCell ⟨w.heap.size, 7, none⟩ (.int .i64 0)).setCell ⟨w.heap.size, 8, none⟩ (.bool false)).setCell ⟨w.heap.size, 9, none⟩ (.slice none 0 0)).setCell ⟨w.heap.size, 10, none⟩ (.slice none 0 0)) = ZZ at hst hbe ⊢
        have q0 := hst.1.cell 0
        have q1 := hst.1.cell 1
        have q2 := hst.1.cell 2
        have q3 := hst.1.cell 3
        have q4 := hst.1.cell 4
        have q5 := hst.1.cell 5
        have q6 := hst.1.cell 6
        have q7 := hst.1.cell 7
        have q8 := hst.1.cell 8
        have q9 := hst.1.cell 9
        have q10 := hst.1.cell 10
        simp at q0 q1 q2 q3 q4 q5 q6 q7 q8 q9 q10
        exact bodyPost_ret (v := .tuple #[zeroM, .int .i64 90]) (by simp [results, Try.results11, go_sem, zeroM, q0, q1, q2, q3, q4, q5, q6, q7, q8, q9, q10]) rfl ⟨rfl, hbe⟩
      have jC : ((hd.extract 0 4).toList == [0, 1, 0, 0]) = true := by have h := P3.out; rw [qC] at h; exact h.symm
      have iC : ((hd.extract 0 4).toList != [0, 1, 0, 0]) = false := by unfold bne; rw [jC]; rfl
      cases qD : sayB hd 12 magicS
      · have jD : ((hd.extract 12 16).toList == [95, 15, 60, 245]) = false := by have h := P4.out; rw [qD] at h; exact h.symm
        have iD : ((hd.extract 12 16).toList != [95, 15, 60, 245]) = true := by unfold bne; rw [jD]; rfl
        clear ALL EALL EHD EHH EL P1 P2 P3 P4 P5
        go_enter Try.func11, Try.ntmps11
        go_wp2_with fail
        rw [HVV.out]
        refine CF0.out.mono ?_
        rintro e w1 ⟨rfl, hw⟩
        replace hw := hw.symm
        subst hw
        go_wp2_with fail
        refine CF1.out.mono ?_
        rintro e w1 ⟨rfl, hw⟩
        replace hw := hw.symm
        subst hw
        go_wp2_with fail
        refine CF2.out.mono ?_
        rintro e w1 ⟨rfl, hw⟩
        replace hw := hw.symm
        subst hw
        go_wp2_with fail
        refine CF3.out.mono ?_
        rintro e w1 ⟨rfl, hw⟩
        replace hw := hw.symm
        subst hw
        go_wp2_with fail
        refine (CN.out _).mono ?_
        rintro e w1 ⟨rfl, m, hw⟩
        have kvn : Blk w1 w.heap.size zeroC 28 := by rw [hw]; exact KV.out.drewN m
        have hbn : Below w.heap.size w w1 := by rw [hw]; exact below_drewN HB.out m
        replace KV := hide kvn
        replace HB := hide hbn
        clear hw kvn hbn
        go_wp2_with fail
        refine (CH.out _).mono ?_
        rintro e w1 ⟨rfl, m, hw⟩
        have kvn : Blk w1 w.heap.size zeroC 28 := by rw [hw]; exact KV.out.drewN m
        have hbn : Below w.heap.size w w1 := by rw [hw]; exact below_drewN HB.out m
        replace KV := hide kvn
        replace HB := hide hbn
        clear hw kvn hbn
        go_wp2_with fail
        refine (CU.out _).mono ?_
        rintro e w1 ⟨rfl, m, hw⟩
        have kvn : Blk w1 w.heap.size zeroC 28 := by rw [hw]; exact KV.out.drewN m
        have hbn : Below w.heap.size w w1 := by rw [hw]; exact below_drewN HB.out m
        replace KV := hide kvn
        replace HB := hide hbn
        clear hw kvn hbn
        go_wp2_with fail
        refine (CO.out _).mono ?_
        rintro e w1 ⟨rfl, m, hw⟩
        have kvn : Blk w1 w.heap.size zeroC 28 := by rw [hw]; exact KV.out.drewN m
        have hbn : Below w.heap.size w w1 := by rw [hw]; exact below_drewN HB.out m
        replace KV := hide kvn
        replace HB := hide hbn
        clear hw kvn hbn
        have z0 := KV.out.cell 0
        have y0 := KV.out.frozen 0
        have z1 := KV.out.cell 1
        have y1 := KV.out.frozen 1
        have z2 := KV.out.cell 2
        have y2 := KV.out.frozen 2
        have z3 := KV.out.cell 3
        have y3 := KV.out.frozen 3
        have z4 := KV.out.cell 4
        have y4 := KV.out.frozen 4
        have z5 := KV.out.cell 5
        have y5 := KV.out.frozen 5
        have z6 := KV.out.cell 6
        have y6 := KV.out.frozen 6
        have z7 := KV.out.cell 7
        have y7 := KV.out.frozen 7
        have z8 := KV.out.cell 8
        have y8 := KV.out.frozen 8
        have z9 := KV.out.cell 9
        have y9 := KV.out.frozen 9
        have z10 := KV.out.cell 10
        have y10 := KV.out.frozen 10
        simp at z0 z1 z2 z3 z4 z5 z6 z7 z8 z9 z10
        have zlt := KV.out.lt
        go_wp2_with fail
        have hst := store11 KV.out (.int .i64 0) (.int .i64 0) (.int .i64 0) (.int .i64 0) (.int .i64 0) (.int .i64 0) (.int .i64 0) (.int .i64 0) (.bool false) (.slice none 0 0) (.slice none 0 0)
        have hbe := hst.2.below HB.out (Nat.le_refl _)
        clear z0 y0 z1 y1 z2 y2 z3 y3 z4 y4 z5 y5 z6 y6 z7 y7 z8 y8 z9 y9 z10 y10 zlt
        generalize (((((((((((w1.setCell ⟨w.heap.size, 0, none⟩ (.int .i64 0)).setCell ⟨w.heap.size, 1, none⟩ (.int .i64 0)).setCell ⟨w.heap.size, 2, none⟩ (.int .i64 0)).setCell ⟨w.heap.size, 3, none⟩ (.int .i64 0)).setCell ⟨w.heap.size, 4, none⟩ (.int .i64 0)).setCell ⟨w.heap.size, 5, none⟩ (.int .i64 0)).setCell ⟨w.heap.size, 6, none⟩ (.int .i64 0)).setCell ⟨w.heap.size, 7, none⟩ (.int .i64 0)).setCell ⟨w.heap.size, 8, none⟩ (.bool false)).setCell ⟨w.heap.size, 9, none⟩ (.slice none 0 0)).setCell ⟨w.heap.size, 10, none⟩ (.slice none 0 0)) = ZZ at hst hbe ⊢
        have q0 := hst.1.cell 0
        have q1 := hst.1.cell 1
        have q2 := hst.1.cell 2
        have q3 := hst.1.cell 3
        have q4 := hst.1.cell 4
        have q5 := hst.1.cell 5
        have q6 := hst.1.cell 6
        have q7 := hst.1.cell 7
        have q8 := hst.1.cell 8
        have q9 := hst.1.cell 9
        have q10 := hst.1.cell 10
        simp at q0 q1 q2 q3 q4 q5 q6 q7 q8 q9 q10
        exact bodyPost_ret (v := .tuple #[zeroM, .int .i64 90]) (by simp [results, Try.results11, go_sem, zeroM, q0, q1, q2, q3, q4, q5, q6, q7, q8, q9, q10]) rfl ⟨rfl, hbe⟩
      have jD : ((hd.extract 12 16).toList == [95, 15, 60, 245]) = true := by have h := P4.out; rw [qD] at h; exact h.symm
      have iD : ((hd.extract 12 16).toList != [95, 15, 60, 245]) = false := by unfold bne; rw [jD]; rfl
      by_cases v1 : UU < 16
      · have v1' : (UU : Int) < 16 := by omega
        clear ALL EALL EHD EHH EL P1 P2 P3 P4 P5
        go_enter Try.func11, Try.ntmps11
        go_wp2_with fail
        rw [HVV.out]
        refine CF0.out.mono ?_
        rintro e w1 ⟨rfl, hw⟩
        replace hw := hw.symm
        subst hw
        go_wp2_with fail
        refine CF1.out.mono ?_
        rintro e w1 ⟨rfl, hw⟩
        replace hw := hw.symm
        subst hw
        go_wp2_with fail
        refine CF2.out.mono ?_
        rintro e w1 ⟨rfl, hw⟩
        replace hw := hw.symm
        subst hw
        go_wp2_with fail
        refine CF3.out.mono ?_
        rintro e w1 ⟨rfl, hw⟩
        replace hw := hw.symm
        subst hw
        go_wp2_with fail
        refine (CN.out _).mono ?_
        rintro e w1 ⟨rfl, m, hw⟩
        have kvn : Blk w1 w.heap.size zeroC 28 := by rw [hw]; exact KV.out.drewN m
        have hbn : Below w.heap.size w w1 := by rw [hw]; exact below_drewN HB.out m
        replace KV := hide kvn
        replace HB := hide hbn
        clear hw kvn hbn
        go_wp2_with fail
        refine (CH.out _).mono ?_
        rintro e w1 ⟨rfl, m, hw⟩
        have kvn : Blk w1 w.heap.size zeroC 28 := by rw [hw]; exact KV.out.drewN m
        have hbn : Below w.heap.size w w1 := by rw [hw]; exact below_drewN HB.out m
        replace KV := hide kvn
        replace HB := hide hbn
        clear hw kvn hbn
        go_wp2_with fail
        refine (CU.out _).mono ?_
        rintro e w1 ⟨rfl, m, hw⟩
        have kvn : Blk w1 w.heap.size zeroC 28 := by rw [hw]; exact KV.out.drewN m
        have hbn : Below w.heap.size w w1 := by rw [hw]; exact below_drewN HB.out m
        replace KV := hide kvn
        replace HB := hide hbn
        clear hw kvn hbn
        go_wp2_with fail
        refine (CO.out _).mono ?_
        rintro e w1 ⟨rfl, m, hw⟩
        have kvn : Blk w1 w.heap.size zeroC 28 := by rw [hw]; exact KV.out.drewN m
        have hbn : Below w.heap.size w w1 := by rw [hw]; exact below_drewN HB.out m
        replace KV := hide kvn
        replace HB := hide hbn
        clear hw kvn hbn
        have z0 := KV.out.cell 0
        have y0 := KV.out.frozen 0
        have z1 := KV.out.cell 1
        have y1 := KV.out.frozen 1
        have z2 := KV.out.cell 2
        have y2 := KV.out.frozen 2
        have z3 := KV.out.cell 3
        have y3 := KV.out.frozen 3
        have z4 := KV.out.cell 4
        have y4 := KV.out.frozen 4
        have z5 := KV.out.cell 5
        have y5 := KV.out.frozen 5
        have z6 := KV.out.cell 6
        have y6 := KV.out.frozen 6
        have z7 := KV.out.cell 7
        have y7 := KV.out.frozen 7
        have z8 := KV.out.cell 8
        have y8 := KV.out.frozen 8
        have z9 := KV.out.cell 9
        have y9 := KV.out.frozen 9
        have z10 := KV.out.cell 10
        have y10 := KV.out.frozen 10
        simp at z0 z1 z2 z3 z4 z5 z6 z7 z8 z9 z10
        have zlt := KV.out.lt
        go_wp2_with fail
        have hst := store11 KV.out (.int .i64 0) (.int .i64 0) (.int .i64 0) (.int .i64 0) (.int .i64 0) (.int .i64 0) (.int .i64 0) (.int .i64 0) (.bool false) (.slice none 0 0) (.slice none 0 0)
        have hbe := hst.2.below HB.out (Nat.le_refl _)
        clear z0 y0 z1 y1 z2 y2 z3 y3 z4 y4 z5 y5 z6 y6 z7 y7 z8 y8 z9 y9 z10 y10 zlt
        generalize (((((((((((w1.setCell ⟨w.heap.size, 0, none⟩ (.int .i64 0)).setCell ⟨w.heap.size, 1, none⟩ (.int .i64 0)).setCell ⟨w.heap.size, 2, none⟩ (.int .i64 0)).setCell ⟨w.heap.size, 3, none⟩ (.int .i64 0)).setCell ⟨w.heap.size, 4, none⟩ (.int .i64 0)).setCell ⟨w.heap.size, 5, none⟩ (.int .i64 0)).setCell ⟨w.heap.size, 6, none⟩ (.int .i64 0)).setCell ⟨w.heap.size, 7, none⟩ (.int .i64 0)).setCell ⟨w.heap.size, 8, none⟩ (.bool false)).setCell ⟨w.heap.size, 9, none⟩ (.slice none 0 0)).setCell ⟨w.heap.size, 10, none⟩ (.slice none 0 0)) = ZZ at hst hbe ⊢
        have q0 := hst.1.cell 0
        have q1 := hst.1.cell 1
        have q2 := hst.1.cell 2
        have q3 := hst.1.cell 3
        have q4 := hst.1.cell 4
        have q5 := hst.1.cell 5
        have q6 := hst.1.cell 6
        have q7 := hst.1.cell 7
        have q8 := hst.1.cell 8
        have q9 := hst.1.cell 9
        have q10 := hst.1.cell 10
        simp at q0 q1 q2 q3 q4 q5 q6 q7 q8 q9 q10
        exact bodyPost_ret (v := .tuple #[zeroM, .int .i64 90]) (by simp [results, Try.results11, go_sem, zeroM, q0, q1, q2, q3, q4, q5, q6, q7, q8, q9, q10]) rfl ⟨rfl, hbe⟩
      have v1' : ¬ (UU : Int) < 16 := by omega
      by_cases v2 : 16384 < UU
      · have v2' : (16384 : Int) < (UU : Int) := by omega
        clear v2
        clear ALL EALL EHD EHH EL P1 P2 P3 P4 P5
        go_enter Try.func11, Try.ntmps11
        go_wp2_with fail
        rw [HVV.out]
        refine CF0.out.mono ?_
        rintro e w1 ⟨rfl, hw⟩
        replace hw := hw.symm
        subst hw
        go_wp2_with fail
        refine CF1.out.mono ?_
        rintro e w1 ⟨rfl, hw⟩
        replace hw := hw.symm
        subst hw
        go_wp2_with fail
        refine CF2.out.mono ?_
        rintro e w1 ⟨rfl, hw⟩
        replace hw := hw.symm
        subst hw
        go_wp2_with fail
        refine CF3.out.mono ?_
        rintro e w1 ⟨rfl, hw⟩
        replace hw := hw.symm
        subst hw
        go_wp2_with fail
        refine (CN.out _).mono ?_
        rintro e w1 ⟨rfl, m, hw⟩
        have kvn : Blk w1 w.heap.size zeroC 28 := by rw [hw]; exact KV.out.drewN m
        have hbn : Below w.heap.size w w1 := by rw [hw]; exact below_drewN HB.out m
        replace KV := hide kvn
        replace HB := hide hbn
        clear hw kvn hbn
        go_wp2_with fail
        refine (CH.out _).mono ?_
        rintro e w1 ⟨rfl, m, hw⟩
        have kvn : Blk w1 w.heap.size zeroC 28 := by rw [hw]; exact KV.out.drewN m
        have hbn : Below w.heap.size w w1 := by rw [hw]; exact below_drewN HB.out m
        replace KV := hide kvn
        replace HB := hide hbn
        clear hw kvn hbn
        go_wp2_with fail
        refine (CU.out _).mono ?_
        rintro e w1 ⟨rfl, m, hw⟩
        have kvn : Blk w1 w.heap.size zeroC 28 := by rw [hw]; exact KV.out.drewN m
        have hbn : Below w.heap.size w w1 := by rw [hw]; exact below_drewN HB.out m
        replace KV := hide kvn
        replace HB := hide hbn
        clear hw kvn hbn
        go_wp2_with fail
        refine (CO.out _).mono ?_
        rintro e w1 ⟨rfl, m, hw⟩
        have kvn : Blk w1 w.heap.size zeroC 28 := by rw [hw]; exact KV.out.drewN m
        have hbn : Below w.heap.size w w1 := by rw [hw]; exact below_drewN HB.out m
        replace KV := hide kvn
        replace HB := hide hbn
        clear hw kvn hbn
        have z0 := KV.out.cell 0
        have y0 := KV.out.frozen 0
        have z1 := KV.out.cell 1
        have y1 := KV.out.frozen 1
        have z2 := KV.out.cell 2
        have y2 := KV.out.frozen 2
        have z3 := KV.out.cell 3
        have y3 := KV.out.frozen 3
        have z4 := KV.out.cell 4
        have y4 := KV.out.frozen 4
        have z5 := KV.out.cell 5
        have y5 := KV.out.frozen 5
        have z6 := KV.out.cell 6
        have y6 := KV.out.frozen 6
        have z7 := KV.out.cell 7
        have y7 := KV.out.frozen 7
        have z8 := KV.out.cell 8
        have y8 := KV.out.frozen 8
        have z9 := KV.out.cell 9
        have y9 := KV.out.frozen 9
        have z10 := KV.out.cell 10
        have y10 := KV.out.frozen 10
        simp at z0 z1 z2 z3 z4 z5 z6 z7 z8 z9 z10
        have zlt := KV.out.lt
        go_wp2_with fail
        have hst := store11 KV.out (.int .i64 0) (.int .i64 0) (.int .i64 0) (.int .i64 0) (.int .i64 0) (.int .i64 0) (.int .i64 0) (.int .i64 0) (.bool false) (.slice none 0 0) (.slice none 0 0)
        have hbe := hst.2.below HB.out (Nat.le_refl _)
        clear z0 y0 z1 y1 z2 y2 z3 y3 z4 y4 z5 y5 z6 y6 z7 y7 z8 y8 z9 y9 z10 y10 zlt
        generalize (((((((((((w1.setCell ⟨w.heap.size, 0, none⟩ (.int .i64 0)).setCell ⟨w.heap.size, 1, none⟩ (.int .i64 0)).setCell ⟨w.heap.size, 2, none⟩ (.int .i64 0)).setCell ⟨w.heap.size, 3, none⟩ (.int .i64 0)).setCell ⟨w.heap.size, 4, none⟩ (.int .i64 0)).setCell ⟨w.heap.size, 5, none⟩ (.int .i64 0)).setCell ⟨w.heap.size, 6, none⟩ (.int .i64 0)).setCell ⟨w.heap.size, 7, none⟩ (.int .i64 0)).setCell ⟨w.heap.size, 8, none⟩ (.bool false)).setCell ⟨w.heap.size, 9, none⟩ (.slice none 0 0)).setCell ⟨w.heap.size, 10, none⟩ (.slice none 0 0)) = ZZ at hst hbe ⊢
        have q0 := hst.1.cell 0
        have q1 := hst.1.cell 1
        have q2 := hst.1.cell 2
        have q3 := hst.1.cell 3
        have q4 := hst.1.cell 4
        have q5 := hst.1.cell 5
        have q6 := hst.1.cell 6
        have q7 := hst.1.cell 7
        have q8 := hst.1.cell 8
        have q9 := hst.1.cell 9
        have q10 := hst.1.cell 10
        simp at q0 q1 q2 q3 q4 q5 q6 q7 q8 q9 q10
        exact bodyPost_ret (v := .tuple #[zeroM, .int .i64 90]) (by simp [results, Try.results11, go_sem, zeroM, q0, q1, q2, q3, q4, q5, q6, q7, q8, q9, q10]) rfl ⟨rfl, hbe⟩
      have v2' : ¬ (16384 : Int) < (UU : Int) := by omega
      by_cases v3 : 1 < OO
      · have v3' : (1 : Int) < (OO : Int) := by omega
        clear ALL EALL EHD EHH EL P1 P2 P3 P4 P5
        go_enter Try.func11, Try.ntmps11
        go_wp2_with fail
        rw [HVV.out]
        refine CF0.out.mono ?_
        rintro e w1 ⟨rfl, hw⟩
        replace hw := hw.symm
        subst hw
        go_wp2_with fail
        refine CF1.out.mono ?_
        rintro e w1 ⟨rfl, hw⟩
        replace hw := hw.symm
        subst hw
        go_wp2_with fail
        refine CF2.out.mono ?_
        rintro e w1 ⟨rfl, hw⟩
        replace hw := hw.symm
        subst hw
        go_wp2_with fail
        refine CF3.out.mono ?_
        rintro e w1 ⟨rfl, hw⟩
        replace hw := hw.symm
        subst hw
        go_wp2_with fail
        refine (CN.out _).mono ?_
        rintro e w1 ⟨rfl, m, hw⟩
        have kvn : Blk w1 w.heap.size zeroC 28 := by rw [hw]; exact KV.out.drewN m
        have hbn : Below w.heap.size w w1 := by rw [hw]; exact below_drewN HB.out m
        replace KV := hide kvn
        replace HB := hide hbn
        clear hw kvn hbn
        go_wp2_with fail
        refine (CH.out _).mono ?_
        rintro e w1 ⟨rfl, m, hw⟩
        have kvn : Blk w1 w.heap.size zeroC 28 := by rw [hw]; exact KV.out.drewN m
        have hbn : Below w.heap.size w w1 := by rw [hw]; exact below_drewN HB.out m
        replace KV := hide kvn
        replace HB := hide hbn
        clear hw kvn hbn
        go_wp2_with fail
        refine (CU.out _).mono ?_
        rintro e w1 ⟨rfl, m, hw⟩
        have kvn : Blk w1 w.heap.size zeroC 28 := by rw [hw]; exact KV.out.drewN m
        have hbn : Below w.heap.size w w1 := by rw [hw]; exact below_drewN HB.out m
        replace KV := hide kvn
        replace HB := hide hbn
        clear hw kvn hbn
        go_wp2_with fail
        refine (CO.out _).mono ?_
        rintro e w1 ⟨rfl, m, hw⟩
        have kvn : Blk w1 w.heap.size zeroC 28 := by rw [hw]; exact KV.out.drewN m
        have hbn : Below w.heap.size w w1 := by rw [hw]; exact below_drewN HB.out m
        replace KV := hide kvn
        replace HB := hide hbn
        clear hw kvn hbn
        have z0 := KV.out.cell 0
        have y0 := KV.out.frozen 0
        have z1 := KV.out.cell 1
        have y1 := KV.out.frozen 1
        have z2 := KV.out.cell 2
        have y2 := KV.out.frozen 2
        have z3 := KV.out.cell 3
        have y3 := KV.out.frozen 3
        have z4 := KV.out.cell 4
        have y4 := KV.out.frozen 4
        have z5 := KV.out.cell 5
        have y5 := KV.out.frozen 5
        have z6 := KV.out.cell 6
        have y6 := KV.out.frozen 6
        have z7 := KV.out.cell 7
        have y7 := KV.out.frozen 7
        have z8 := KV.out.cell 8
        have y8 := KV.out.frozen 8
        have z9 := KV.out.cell 9
        have y9 := KV.out.frozen 9
        have z10 := KV.out.cell 10
        have y10 := KV.out.frozen 10
        simp at z0 z1 z2 z3 z4 z5 z6 z7 z8 z9 z10
        have zlt := KV.out.lt
        go_wp2_with fail
        have hst := store11 KV.out (.int .i64 0) (.int .i64 0) (.int .i64 0) (.int .i64 0) (.int .i64 0) (.int .i64 0) (.int .i64 0) (.int .i64 0) (.bool false) (.slice none 0 0) (.slice none 0 0)
        have hbe := hst.2.below HB.out (Nat.le_refl _)
        clear z0 y0 z1 y1 z2 y2 z3 y3 z4 y4 z5 y5 z6 y6 z7 y7 z8 y8 z9 y9 z10 y10 zlt
        generalize (((((((((((w1.setCell ⟨w.heap.size, 0, none⟩ (.int .i64 0)).setCell ⟨w.heap.size, 1, none⟩ (.int .i64 0)).setCell ⟨w.heap.size, 2, none⟩ (.int .i64 0)).setCell ⟨w.heap.size, 3, none⟩ (.int .i64 0)).setCell ⟨w.heap.size, 4, none⟩ (.int .i64 0)).setCell ⟨w.heap.size, 5, none⟩ (.int .i64 0)).setCell ⟨w.heap.size, 6, none⟩ (.int .i64 0)).setCell ⟨w.heap.size, 7, none⟩ (.int .i64 0)).setCell ⟨w.heap.size, 8, none⟩ (.bool false)).setCell ⟨w.heap.size, 9, none⟩ (.slice none 0 0)).setCell ⟨w.heap.size, 10, none⟩ (.slice none 0 0)) = ZZ at hst hbe ⊢
        have q0 := hst.1.cell 0
        have q1 := hst.1.cell 1
        have q2 := hst.1.cell 2
        have q3 := hst.1.cell 3
        have q4 := hst.1.cell 4
        have q5 := hst.1.cell 5
        have q6 := hst.1.cell 6
        have q7 := hst.1.cell 7
        have q8 := hst.1.cell 8
        have q9 := hst.1.cell 9
        have q10 := hst.1.cell 10
        simp at q0 q1 q2 q3 q4 q5 q6 q7 q8 q9 q10
        exact bodyPost_ret (v := .tuple #[zeroM, .int .i64 90]) (by simp [results, Try.results11, go_sem, zeroM, q0, q1, q2, q3, q4, q5, q6, q7, q8, q9, q10]) rfl ⟨rfl, hbe⟩
      have v3' : ¬ (1 : Int) < (OO : Int) := by omega
      by_cases v4 : X52 = 0
      case neg =>
        have v4' : ((X52 : Int) == 0) = false := by simp; omega
        have v4b : ((X52 : Int) != 0) = true := by simp; omega
        have v4c : ¬ (X52 : Int) = 0 := by omega
        clear ALL EALL EHD EHH EL P1 P2 P3 P4 P5
        go_enter Try.func11, Try.ntmps11
        go_wp2_with fail
        rw [HVV.out]
        refine CF0.out.mono ?_
        rintro e w1 ⟨rfl, hw⟩
        replace hw := hw.symm
        subst hw
        go_wp2_with fail
        refine CF1.out.mono ?_
        rintro e w1 ⟨rfl, hw⟩
        replace hw := hw.symm
        subst hw
        go_wp2_with fail
        refine CF2.out.mono ?_
        rintro e w1 ⟨rfl, hw⟩
        replace hw := hw.symm
        subst hw
        go_wp2_with fail
        refine CF3.out.mono ?_
        rintro e w1 ⟨rfl, hw⟩
        replace hw := hw.symm
        subst hw
        go_wp2_with fail
        refine (CN.out _).mono ?_
        rintro e w1 ⟨rfl, m, hw⟩
        have kvn : Blk w1 w.heap.size zeroC 28 := by rw [hw]; exact KV.out.drewN m
        have hbn : Below w.heap.size w w1 := by rw [hw]; exact below_drewN HB.out m
        replace KV := hide kvn
        replace HB := hide hbn
        clear hw kvn hbn
        go_wp2_with fail
        refine (CH.out _).mono ?_
        rintro e w1 ⟨rfl, m, hw⟩
        have kvn : Blk w1 w.heap.size zeroC 28 := by rw [hw]; exact KV.out.drewN m
        have hbn : Below w.heap.size w w1 := by rw [hw]; exact below_drewN HB.out m
        replace KV := hide kvn
        replace HB := hide hbn
        clear hw kvn hbn
        go_wp2_with fail
        refine (CU.out _).mono ?_
        rintro e w1 ⟨rfl, m, hw⟩
        have kvn : Blk w1 w.heap.size zeroC 28 := by rw [hw]; exact KV.out.drewN m
        have hbn : Below w.heap.size w w1 := by rw [hw]; exact below_drewN HB.out m
        replace KV := hide kvn
        replace HB := hide hbn
        clear hw kvn hbn
        go_wp2_with fail
        refine (CO.out _).mono ?_
        rintro e w1 ⟨rfl, m, hw⟩
        have kvn : Blk w1 w.heap.size zeroC 28 := by rw [hw]; exact KV.out.drewN m
        have hbn : Below w.heap.size w w1 := by rw [hw]; exact below_drewN HB.out m
        replace KV := hide kvn
        replace HB := hide hbn
        clear hw kvn hbn
        have z0 := KV.out.cell 0
        have y0 := KV.out.frozen 0
        have z1 := KV.out.cell 1
        have y1 := KV.out.frozen 1
        have z2 := KV.out.cell 2
        have y2 := KV.out.frozen 2
        have z3 := KV.out.cell 3
        have y3 := KV.out.frozen 3
        have z4 := KV.out.cell 4
        have y4 := KV.out.frozen 4
        have z5 := KV.out.cell 5
        have y5 := KV.out.frozen 5
        have z6 := KV.out.cell 6
        have y6 := KV.out.frozen 6
        have z7 := KV.out.cell 7
        have y7 := KV.out.frozen 7
        have z8 := KV.out.cell 8
        have y8 := KV.out.frozen 8
        have z9 := KV.out.cell 9
        have y9 := KV.out.frozen 9
        have z10 := KV.out.cell 10
        have y10 := KV.out.frozen 10
        simp at z0 z1 z2 z3 z4 z5 z6 z7 z8 z9 z10
        have zlt := KV.out.lt
        go_wp2_with fail
        clear z0 y0 z1 y1 z2 y2 z3 y3 z4 y4 z5 y5 z6 y6 z7 y7 z8 y8 z9 y9 z10 y10 zlt
        refine (C52.out _).mono ?_
        rintro e w1 ⟨rfl, m, hw⟩
        have kvn : Blk w1 w.heap.size zeroC 28 := by rw [hw]; exact KV.out.drewN m
        have hbn : Below w.heap.size w w1 := by rw [hw]; exact below_drewN HB.out m
        replace KV := hide kvn
        replace HB := hide hbn
        clear hw kvn hbn
        have z0 := KV.out.cell 0
        have y0 := KV.out.frozen 0
        have z1 := KV.out.cell 1
        have y1 := KV.out.frozen 1
        have z2 := KV.out.cell 2
        have y2 := KV.out.frozen 2
        have z3 := KV.out.cell 3
        have y3 := KV.out.frozen 3
        have z4 := KV.out.cell 4
        have y4 := KV.out.frozen 4
        have z5 := KV.out.cell 5
        have y5 := KV.out.frozen 5
        have z6 := KV.out.cell 6
        have y6 := KV.out.frozen 6
        have z7 := KV.out.cell 7
        have y7 := KV.out.frozen 7
        have z8 := KV.out.cell 8
        have y8 := KV.out.frozen 8
        have z9 := KV.out.cell 9
        have y9 := KV.out.frozen 9
        have z10 := KV.out.cell 10
        have y10 := KV.out.frozen 10
        simp at z0 z1 z2 z3 z4 z5 z6 z7 z8 z9 z10
        have zlt := KV.out.lt
        go_wp2_with fail
        have hst := store11 KV.out (.int .i64 0) (.int .i64 0) (.int .i64 0) (.int .i64 0) (.int .i64 0) (.int .i64 0) (.int .i64 0) (.int .i64 0) (.bool false) (.slice none 0 0) (.slice none 0 0)
        have hbe := hst.2.below HB.out (Nat.le_refl _)
        clear z0 y0 z1 y1 z2 y2 z3 y3 z4 y4 z5 y5 z6 y6 z7 y7 z8 y8 z9 y9 z10 y10 zlt
        generalize (((((((((((w1.setCell ⟨w.heap.size, 0, none⟩ (.int .i64 0)).setCell ⟨w.heap.size, 1, none⟩ (.int .i64 0)).setCell ⟨w.heap.size, 2, none⟩ (.int .i64 0)).setCell ⟨w.heap.size, 3, none⟩ (.int .i64 0)).setCell ⟨w.heap.size, 4, none⟩ (.int .i64 0)).setCell ⟨w.heap.size, 5, none⟩ (.int .i64 0)).setCell ⟨w.heap.size, 6, none⟩ (.int .i64 0)).setCell ⟨w.heap.size, 7, none⟩ (.int .i64 0)).setCell ⟨w.heap.size, 8, none⟩ (.bool false)).setCell ⟨w.heap.size, 9, none⟩ (.slice none 0 0)).setCell ⟨w.heap.size, 10, none⟩ (.slice none 0 0)) = ZZ at hst hbe ⊢
        have q0 := hst.1.cell 0
        have q1 := hst.1.cell 1
        have q2 := hst.1.cell 2
        have q3 := hst.1.cell 3
        have q4 := hst.1.cell 4
        have q5 := hst.1.cell 5
        have q6 := hst.1.cell 6
        have q7 := hst.1.cell 7
        have q8 := hst.1.cell 8
        have q9 := hst.1.cell 9
        have q10 := hst.1.cell 10
        simp at q0 q1 q2 q3 q4 q5 q6 q7 q8 q9 q10
        exact bodyPost_ret (v := .tuple #[zeroM, .int .i64 90]) (by simp [results, Try.results11, go_sem, zeroM, q0, q1, q2, q3, q4, q5, q6, q7, q8, q9, q10]) rfl ⟨rfl, hbe⟩
      subst v4
      have thd : hdB hd = true := by rw [EHD.out, qC, qD, wiB_t1 (show (16 : Int) ≤ (UU : Int) by omega) (show (UU : Int) ≤ 16384 by omega), wiB_t1 (show (0 : Int) ≤ (OO : Int) by omega) (show (OO : Int) ≤ 1 by omega)]; rfl
      rw [thd, Bool.true_and] at EALL
      clear v1 v2 v3 thd EHD
      cases qE : sayB hh 0 verS
      · have jE : ((hh.extract 0 4).toList == [0, 1, 0, 0]) = false := by have h := P5.out; rw [qE] at h; exact h.symm
        have iE : ((hh.extract 0 4).toList != [0, 1, 0, 0]) = true := by unfold bne; rw [jE]; rfl
        clear ALL EALL EHH EL P1 P2 P3 P4 P5
        go_enter Try.func11, Try.ntmps11
        go_wp2_with fail
        rw [HVV.out]
        refine CF0.out.mono ?_
        rintro e w1 ⟨rfl, hw⟩
        replace hw := hw.symm
        subst hw
        go_wp2_with fail
        refine CF1.out.mono ?_
        rintro e w1 ⟨rfl, hw⟩
        replace hw := hw.symm
        subst hw
        go_wp2_with fail
        refine CF2.out.mono ?_
        rintro e w1 ⟨rfl, hw⟩
        replace hw := hw.symm
        subst hw
        go_wp2_with fail
        refine CF3.out.mono ?_
        rintro e w1 ⟨rfl, hw⟩
        replace hw := hw.symm
        subst hw
        go_wp2_with fail
        refine (CN.out _).mono ?_
        rintro e w1 ⟨rfl, m, hw⟩
        have kvn : Blk w1 w.heap.size zeroC 28 := by rw [hw]; exact KV.out.drewN m
        have hbn : Below w.heap.size w w1 := by rw [hw]; exact below_drewN HB.out m
        replace KV := hide kvn
        replace HB := hide hbn
        clear hw kvn hbn
        go_wp2_with fail
        refine (CH.out _).mono ?_
        rintro e w1 ⟨rfl, m, hw⟩
        have kvn : Blk w1 w.heap.size zeroC 28 := by rw [hw]; exact KV.out.drewN m
        have hbn : Below w.heap.size w w1 := by rw [hw]; exact below_drewN HB.out m
        replace KV := hide kvn
        replace HB := hide hbn
        clear hw kvn hbn
        go_wp2_with fail
        refine (CU.out _).mono ?_
        rintro e w1 ⟨rfl, m, hw⟩
        have kvn : Blk w1 w.heap.size zeroC 28 := by rw [hw]; exact KV.out.drewN m
        have hbn : Below w.heap.size w w1 := by rw [hw]; exact below_drewN HB.out m
        replace KV := hide kvn
        replace HB := hide hbn
        clear hw kvn hbn
        go_wp2_with fail
        refine (CO.out _).mono ?_
        rintro e w1 ⟨rfl, m, hw⟩
        have kvn : Blk w1 w.heap.size zeroC 28 := by rw [hw]; exact KV.out.drewN m
        have hbn : Below w.heap.size w w1 := by rw [hw]; exact below_drewN HB.out m
        replace KV := hide kvn
        replace HB := hide hbn
        clear hw kvn hbn
        have z0 := KV.out.cell 0
        have y0 := KV.out.frozen 0
        have z1 := KV.out.cell 1
        have y1 := KV.out.frozen 1
        have z2 := KV.out.cell 2
        have y2 := KV.out.frozen 2
        have z3 := KV.out.cell 3
        have y3 := KV.out.frozen 3
        have z4 := KV.out.cell 4
        have y4 := KV.out.frozen 4
        have z5 := KV.out.cell 5
        have y5 := KV.out.frozen 5
        have z6 := KV.out.cell 6
        have y6 := KV.out.frozen 6
        have z7 := KV.out.cell 7
        have y7 := KV.out.frozen 7
        have z8 := KV.out.cell 8
        have y8 := KV.out.frozen 8
        have z9 := KV.out.cell 9
        have y9 := KV.out.frozen 9
        have z10 := KV.out.cell 10
        have y10 := KV.out.frozen 10
        simp at z0 z1 z2 z3 z4 z5 z6 z7 z8 z9 z10
        have zlt := KV.out.lt
        go_wp2_with fail
        clear z0 y0 z1 y1 z2 y2 z3 y3 z4 y4 z5 y5 z6 y6 z7 y7 z8 y8 z9 y9 z10 y10 zlt
        refine (C52.out _).mono ?_
        rintro e w1 ⟨rfl, m, hw⟩
        have kvn : Blk w1 w.heap.size zeroC 28 := by rw [hw]; exact KV.out.drewN m
        have hbn : Below w.heap.size w w1 := by rw [hw]; exact below_drewN HB.out m
        replace KV := hide kvn
        replace HB := hide hbn
        clear hw kvn hbn
        have z0 := KV.out.cell 0
        have y0 := KV.out.frozen 0
        have z1 := KV.out.cell 1
        have y1 := KV.out.frozen 1
        have z2 := KV.out.cell 2
        have y2 := KV.out.frozen 2
        have z3 := KV.out.cell 3
        have y3 := KV.out.frozen 3
        have z4 := KV.out.cell 4
        have y4 := KV.out.frozen 4
        have z5 := KV.out.cell 5
        have y5 := KV.out.frozen 5
        have z6 := KV.out.cell 6
        have y6 := KV.out.frozen 6
        have z7 := KV.out.cell 7
        have y7 := KV.out.frozen 7
        have z8 := KV.out.cell 8
        have y8 := KV.out.frozen 8
        have z9 := KV.out.cell 9
        have y9 := KV.out.frozen 9
        have z10 := KV.out.cell 10
        have y10 := KV.out.frozen 10
        simp at z0 z1 z2 z3 z4 z5 z6 z7 z8 z9 z10
        have zlt := KV.out.lt
        go_wp2_with fail
        have hst := store11 KV.out (.int .i64 0) (.int .i64 0) (.int .i64 0) (.int .i64 0) (.int .i64 0) (.int .i64 0) (.int .i64 0) (.int .i64 0) (.bool false) (.slice none 0 0) (.slice none 0 0)
        have hbe := hst.2.below HB.out (Nat.le_refl _)
        clear z0 y0 z1 y1 z2 y2 z3 y3 z4 y4 z5 y5 z6 y6 z7 y7 z8 y8 z9 y9 z10 y10 zlt
        generalize (((((((((((w1.setCell ⟨w.heap.size, 0, none⟩ (.int .i64 0)).setCell ⟨w.heap.size, 1, none⟩ (.int .i64 0)).setCell ⟨w.heap.size, 2, none⟩ (.int .i64 0)).setCell ⟨w.heap.size, 3, none⟩ (.int .i64 0)).setCell ⟨w.heap.size, 4, none⟩ (.int .i64 0)).setCell ⟨w.heap.size, 5, none⟩ (.int .i64 0)).setCell ⟨w.heap.size, 6, none⟩ (.int .i64 0)).setCell ⟨w.heap.size, 7, none⟩ (.int .i64 0)).setCell ⟨w.heap.size, 8, none⟩ (.bool false)).setCell ⟨w.heap.size, 9, none⟩ (.slice none 0 0)).setCell ⟨w.heap.size, 10, none⟩ (.slice none 0 0)) = ZZ at hst hbe ⊢
        have q0 := hst.1.cell 0
        have q1 := hst.1.cell 1
        have q2 := hst.1.cell 2
        have q3 := hst.1.cell 3
        have q4 := hst.1.cell 4
        have q5 := hst.1.cell 5
        have q6 := hst.1.cell 6
        have q7 := hst.1.cell 7
        have q8 := hst.1.cell 8
        have q9 := hst.1.cell 9
        have q10 := hst.1.cell 10
        simp at q0 q1 q2 q3 q4 q5 q6 q7 q8 q9 q10
        exact bodyPost_ret (v := .tuple #[zeroM, .int .i64 90]) (by simp [results, Try.results11, go_sem, zeroM, q0, q1, q2, q3, q4, q5, q6, q7, q8, q9, q10]) rfl ⟨rfl, hbe⟩
      have jE : ((hh.extract 0 4).toList == [0, 1, 0, 0]) = true := by have h := P5.out; rw [qE] at h; exact h.symm
      have iE : ((hh.extract 0 4).toList != [0, 1, 0, 0]) = false := by unfold bne; rw [jE]; rfl
      by_cases y4 : X32 = 0
      case neg =>
        have y4' : ((X32 : Int) == 0) = false := by simp; omega
        have y4b : ((X32 : Int) != 0) = true := by simp; omega
        have y4c : ¬ (X32 : Int) = 0 := by omega
        clear ALL EALL EHH EL P1 P2 P3 P4 P5
        go_enter Try.func11, Try.ntmps11
        go_wp2_with fail
        rw [HVV.out]
        refine CF0.out.mono ?_
        rintro e w1 ⟨rfl, hw⟩
        replace hw := hw.symm
        subst hw
        go_wp2_with fail
        refine CF1.out.mono ?_
        rintro e w1 ⟨rfl, hw⟩
        replace hw := hw.symm
        subst hw
        go_wp2_with fail
        refine CF2.out.mono ?_
        rintro e w1 ⟨rfl, hw⟩
        replace hw := hw.symm
        subst hw
        go_wp2_with fail
        refine CF3.out.mono ?_
        rintro e w1 ⟨rfl, hw⟩
        replace hw := hw.symm
        subst hw
        go_wp2_with fail
        refine (CN.out _).mono ?_
        rintro e w1 ⟨rfl, m, hw⟩
        have kvn : Blk w1 w.heap.size zeroC 28 := by rw [hw]; exact KV.out.drewN m
        have hbn : Below w.heap.size w w1 := by rw [hw]; exact below_drewN HB.out m
        replace KV := hide kvn
        replace HB := hide hbn
        clear hw kvn hbn
        go_wp2_with fail
        refine (CH.out _).mono ?_
        rintro e w1 ⟨rfl, m, hw⟩
        have kvn : Blk w1 w.heap.size zeroC 28 := by rw [hw]; exact KV.out.drewN m
        have hbn : Below w.heap.size w w1 := by rw [hw]; exact below_drewN HB.out m
        replace KV := hide kvn
        replace HB := hide hbn
        clear hw kvn hbn
        go_wp2_with fail
        refine (CU.out _).mono ?_
        rintro e w1 ⟨rfl, m, hw⟩
        have kvn : Blk w1 w.heap.size zeroC 28 := by rw [hw]; exact KV.out.drewN m
        have hbn : Below w.heap.size w w1 := by rw [hw]; exact below_drewN HB.out m
        replace KV := hide kvn
        replace HB := hide hbn
        clear hw kvn hbn
        go_wp2_with fail
        refine (CO.out _).mono ?_
        rintro e w1 ⟨rfl, m, hw⟩
        have kvn : Blk w1 w.heap.size zeroC 28 := by rw [hw]; exact KV.out.drewN m
        have hbn : Below w.heap.size w w1 := by rw [hw]; exact below_drewN HB.out m
        replace KV := hide kvn
        replace HB := hide hbn
        clear hw kvn hbn
        have z0 := KV.out.cell 0
        have y0 := KV.out.frozen 0
        have z1 := KV.out.cell 1
        have y1 := KV.out.frozen 1
        have z2 := KV.out.cell 2
        have y2 := KV.out.frozen 2
        have z3 := KV.out.cell 3
        have y3 := KV.out.frozen 3
        have z4 := KV.out.cell 4
        have y4 := KV.out.frozen 4
        have z5 := KV.out.cell 5
        have y5 := KV.out.frozen 5
        have z6 := KV.out.cell 6
        have y6 := KV.out.frozen 6
        have z7 := KV.out.cell 7
        have y7 := KV.out.frozen 7
        have z8 := KV.out.cell 8
        have y8 := KV.out.frozen 8
        have z9 := KV.out.cell 9
        have y9 := KV.out.frozen 9
        have z10 := KV.out.cell 10
        have y10 := KV.out.frozen 10
        simp at z0 z1 z2 z3 z4 z5 z6 z7 z8 z9 z10
        have zlt := KV.out.lt
        go_wp2_with fail
        clear z0 y0 z1 y1 z2 y2 z3 y3 z4 y4 z5 y5 z6 y6 z7 y7 z8 y8 z9 y9 z10 y10 zlt
        refine (C52.out _).mono ?_
        rintro e w1 ⟨rfl, m, hw⟩
        have kvn : Blk w1 w.heap.size zeroC 28 := by rw [hw]; exact KV.out.drewN m
        have hbn : Below w.heap.size w w1 := by rw [hw]; exact below_drewN HB.out m
        replace KV := hide kvn
        replace HB := hide hbn
        clear hw kvn hbn
        have z0 := KV.out.cell 0
        have y0 := KV.out.frozen 0
        have z1 := KV.out.cell 1
        have y1 := KV.out.frozen 1
        have z2 := KV.out.cell 2
        have y2 := KV.out.frozen 2
        have z3 := KV.out.cell 3
        have y3 := KV.out.frozen 3
        have z4 := KV.out.cell 4
        have y4 := KV.out.frozen 4
        have z5 := KV.out.cell 5
        have y5 := KV.out.frozen 5
        have z6 := KV.out.cell 6
        have y6 := KV.out.frozen 6
        have z7 := KV.out.cell 7
        have y7 := KV.out.frozen 7
        have z8 := KV.out.cell 8
        have y8 := KV.out.frozen 8
        have z9 := KV.out.cell 9
        have y9 := KV.out.frozen 9
        have z10 := KV.out.cell 10
        have y10 := KV.out.frozen 10
        simp at z0 z1 z2 z3 z4 z5 z6 z7 z8 z9 z10
        have zlt := KV.out.lt
        go_wp2_with fail
        clear z0 y0 z1 y1 z2 y2 z3 y3 z4 y4 z5 y5 z6 y6 z7 y7 z8 y8 z9 y9 z10 y10 zlt
        refine (C32.out _).mono ?_
        rintro e w1 ⟨rfl, m, hw⟩
        have kvn : Blk w1 w.heap.size zeroC 28 := by rw [hw]; exact KV.out.drewN m
        have hbn : Below w.heap.size w w1 := by rw [hw]; exact below_drewN HB.out m
        replace KV := hide kvn
        replace HB := hide hbn
        clear hw kvn hbn
        have z0 := KV.out.cell 0
        have y0 := KV.out.frozen 0
        have z1 := KV.out.cell 1
        have y1 := KV.out.frozen 1
        have z2 := KV.out.cell 2
        have y2 := KV.out.frozen 2
        have z3 := KV.out.cell 3
        have y3 := KV.out.frozen 3
        have z4 := KV.out.cell 4
        have y4 := KV.out.frozen 4
        have z5 := KV.out.cell 5
        have y5 := KV.out.frozen 5
        have z6 := KV.out.cell 6
        have y6 := KV.out.frozen 6
        have z7 := KV.out.cell 7
        have y7 := KV.out.frozen 7
        have z8 := KV.out.cell 8
        have y8 := KV.out.frozen 8
        have z9 := KV.out.cell 9
        have y9 := KV.out.frozen 9
        have z10 := KV.out.cell 10
        have y10 := KV.out.frozen 10
        simp at z0 z1 z2 z3 z4 z5 z6 z7 z8 z9 z10
        have zlt := KV.out.lt
        go_wp2_with fail
        have hst := store11 KV.out (.int .i64 0) (.int .i64 0) (.int .i64 0) (.int .i64 0) (.int .i64 0) (.int .i64 0) (.int .i64 0) (.int .i64 0) (.bool false) (.slice none 0 0) (.slice none 0 0)
        have hbe := hst.2.below HB.out (Nat.le_refl _)
        clear z0 y0 z1 y1 z2 y2 z3 y3 z4 y4 z5 y5 z6 y6 z7 y7 z8 y8 z9 y9 z10 y10 zlt
        generalize (((((((((((w1.setCell ⟨w.heap.size, 0, none⟩ (.int .i64 0)).setCell ⟨w.heap.size, 1, none⟩ (.int .i64 0)).setCell ⟨w.heap.size, 2, none⟩ (.int .i64 0)).setCell ⟨w.heap.size, 3, none⟩ (.int .i64 0)).setCell ⟨w.heap.size, 4, none⟩ (.int .i64 0)).setCell ⟨w.heap.size, 5, none⟩ (.int .i64 0)).setCell ⟨w.heap.size, 6, none⟩ (.int .i64 0)).setCell ⟨w.heap.size, 7, none⟩ (.int .i64 0)).setCell ⟨w.heap.size, 8, none⟩ (.bool false)).setCell ⟨w.heap.size, 9, none⟩ (.slice none 0 0)).setCell ⟨w.heap.size, 10, none⟩ (.slice none 0 0)) = ZZ at hst hbe ⊢
        have q0 := hst.1.cell 0
        have q1 := hst.1.cell 1
        have q2 := hst.1.cell 2
        have q3 := hst.1.cell 3
        have q4 := hst.1.cell 4
        have q5 := hst.1.cell 5
        have q6 := hst.1.cell 6
        have q7 := hst.1.cell 7
        have q8 := hst.1.cell 8
        have q9 := hst.1.cell 9
        have q10 := hst.1.cell 10
        simp at q0 q1 q2 q3 q4 q5 q6 q7 q8 q9 q10
        exact bodyPost_ret (v := .tuple #[zeroM, .int .i64 90]) (by simp [results, Try.results11, go_sem, zeroM, q0, q1, q2, q3, q4, q5, q6, q7, q8, q9, q10]) rfl ⟨rfl, hbe⟩
      subst y4
      by_cases h1 : H < 1
      · have h1' : (H : Int) < 1 := by omega
        clear ALL EALL EHH EL P1 P2 P3 P4 P5
        go_enter Try.func11, Try.ntmps11
        go_wp2_with fail
        rw [HVV.out]
        refine CF0.out.mono ?_
        rintro e w1 ⟨rfl, hw⟩
        replace hw := hw.symm
        subst hw
        go_wp2_with fail
        refine CF1.out.mono ?_
        rintro e w1 ⟨rfl, hw⟩
        replace hw := hw.symm
        subst hw
        go_wp2_with fail
        refine CF2.out.mono ?_
        rintro e w1 ⟨rfl, hw⟩
        replace hw := hw.symm
        subst hw
        go_wp2_with fail
        refine CF3.out.mono ?_
        rintro e w1 ⟨rfl, hw⟩
        replace hw := hw.symm
        subst hw
        go_wp2_with fail
        refine (CN.out _).mono ?_
        rintro e w1 ⟨rfl, m, hw⟩
        have kvn : Blk w1 w.heap.size zeroC 28 := by rw [hw]; exact KV.out.drewN m
        have hbn : Below w.heap.size w w1 := by rw [hw]; exact below_drewN HB.out m
        replace KV := hide kvn
        replace HB := hide hbn
        clear hw kvn hbn
        go_wp2_with fail
        refine (CH.out _).mono ?_
        rintro e w1 ⟨rfl, m, hw⟩
        have kvn : Blk w1 w.heap.size zeroC 28 := by rw [hw]; exact KV.out.drewN m
        have hbn : Below w.heap.size w w1 := by rw [hw]; exact below_drewN HB.out m
        replace KV := hide kvn
        replace HB := hide hbn
        clear hw kvn hbn
        go_wp2_with fail
        refine (CU.out _).mono ?_
        rintro e w1 ⟨rfl, m, hw⟩
        have kvn : Blk w1 w.heap.size zeroC 28 := by rw [hw]; exact KV.out.drewN m
        have hbn : Below w.heap.size w w1 := by rw [hw]; exact below_drewN HB.out m
        replace KV := hide kvn
        replace HB := hide hbn
        clear hw kvn hbn
        go_wp2_with fail
        refine (CO.out _).mono ?_
        rintro e w1 ⟨rfl, m, hw⟩
        have kvn : Blk w1 w.heap.size zeroC 28 := by rw [hw]; exact KV.out.drewN m
        have hbn : Below w.heap.size w w1 := by rw [hw]; exact below_drewN HB.out m
        replace KV := hide kvn
        replace HB := hide hbn
        clear hw kvn hbn
        have z0 := KV.out.cell 0
        have y0 := KV.out.frozen 0
        have z1 := KV.out.cell 1
        have y1 := KV.out.frozen 1
        have z2 := KV.out.cell 2
        have y2 := KV.out.frozen 2
        have z3 := KV.out.cell 3
        have y3 := KV.out.frozen 3
        have z4 := KV.out.cell 4
        have y4 := KV.out.frozen 4
        have z5 := KV.out.cell 5
        have y5 := KV.out.frozen 5
        have z6 := KV.out.cell 6
        have y6 := KV.out.frozen 6
        have z7 := KV.out.cell 7
        have y7 := KV.out.frozen 7
        have z8 := KV.out.cell 8
        have y8 := KV.out.frozen 8
        have z9 := KV.out.cell 9
        have y9 := KV.out.frozen 9
        have z10 := KV.out.cell 10
        have y10 := KV.out.frozen 10
        simp at z0 z1 z2 z3 z4 z5 z6 z7 z8 z9 z10
        have zlt := KV.out.lt
        go_wp2_with fail
        clear z0 y0 z1 y1 z2 y2 z3 y3 z4 y4 z5 y5 z6 y6 z7 y7 z8 y8 z9 y9 z10 y10 zlt
        refine (C52.out _).mono ?_
        rintro e w1 ⟨rfl, m, hw⟩
        have kvn : Blk w1 w.heap.size zeroC 28 := by rw [hw]; exact KV.out.drewN m
        have hbn : Below w.heap.size w w1 := by rw [hw]; exact below_drewN HB.out m
        replace KV := hide kvn
        replace HB := hide hbn
        clear hw kvn hbn
        have z0 := KV.out.cell 0
        have y0 := KV.out.frozen 0
        have z1 := KV.out.cell 1
        have y1 := KV.out.frozen 1
        have z2 := KV.out.cell 2
        have y2 := KV.out.frozen 2
        have z3 := KV.out.cell 3
        have y3 := KV.out.frozen 3
        have z4 := KV.out.cell 4
        have y4 := KV.out.frozen 4
        have z5 := KV.out.cell 5
        have y5 := KV.out.frozen 5
        have z6 := KV.out.cell 6
        have y6 := KV.out.frozen 6
        have z7 := KV.out.cell 7
        have y7 := KV.out.frozen 7
        have z8 := KV.out.cell 8
        have y8 := KV.out.frozen 8
        have z9 := KV.out.cell 9
        have y9 := KV.out.frozen 9
        have z10 := KV.out.cell 10
        have y10 := KV.out.frozen 10
        simp at z0 z1 z2 z3 z4 z5 z6 z7 z8 z9 z10
        have zlt := KV.out.lt
        go_wp2_with fail
        clear z0 y0 z1 y1 z2 y2 z3 y3 z4 y4 z5 y5 z6 y6 z7 y7 z8 y8 z9 y9 z10 y10 zlt
        refine (C32.out _).mono ?_
        rintro e w1 ⟨rfl, m, hw⟩
        have kvn : Blk w1 w.heap.size zeroC 28 := by rw [hw]; exact KV.out.drewN m
        have hbn : Below w.heap.size w w1 := by rw [hw]; exact below_drewN HB.out m
        replace KV := hide kvn
        replace HB := hide hbn
        clear hw kvn hbn
        have z0 := KV.out.cell 0
        have y0 := KV.out.frozen 0
        have z1 := KV.out.cell 1
        have y1 := KV.out.frozen 1
        have z2 := KV.out.cell 2
        have y2 := KV.out.frozen 2
        have z3 := KV.out.cell 3
        have y3 := KV.out.frozen 3
        have z4 := KV.out.cell 4
        have y4 := KV.out.frozen 4
        have z5 := KV.out.cell 5
        have y5 := KV.out.frozen 5
        have z6 := KV.out.cell 6
        have y6 := KV.out.frozen 6
        have z7 := KV.out.cell 7
        have y7 := KV.out.frozen 7
        have z8 := KV.out.cell 8
        have y8 := KV.out.frozen 8
        have z9 := KV.out.cell 9
        have y9 := KV.out.frozen 9
        have z10 := KV.out.cell 10
        have y10 := KV.out.frozen 10
        simp at z0 z1 z2 z3 z4 z5 z6 z7 z8 z9 z10
        have zlt := KV.out.lt
        go_wp2_with fail
        have hst := store11 KV.out (.int .i64 0) (.int .i64 0) (.int .i64 0) (.int .i64 0) (.int .i64 0) (.int .i64 0) (.int .i64 0) (.int .i64 0) (.bool false) (.slice none 0 0) (.slice none 0 0)
        have hbe := hst.2.below HB.out (Nat.le_refl _)
        clear z0 y0 z1 y1 z2 y2 z3 y3 z4 y4 z5 y5 z6 y6 z7 y7 z8 y8 z9 y9 z10 y10 zlt
        generalize (((((((((((w1.setCell ⟨w.heap.size, 0, none⟩ (.int .i64 0)).setCell ⟨w.heap.size, 1, none⟩ (.int .i64 0)).setCell ⟨w.heap.size, 2, none⟩ (.int .i64 0)).setCell ⟨w.heap.size, 3, none⟩ (.int .i64 0)).setCell ⟨w.heap.size, 4, none⟩ (.int .i64 0)).setCell ⟨w.heap.size, 5, none⟩ (.int .i64 0)).setCell ⟨w.heap.size, 6, none⟩ (.int .i64 0)).setCell ⟨w.heap.size, 7, none⟩ (.int .i64 0)).setCell ⟨w.heap.size, 8, none⟩ (.bool false)).setCell ⟨w.heap.size, 9, none⟩ (.slice none 0 0)).setCell ⟨w.heap.size, 10, none⟩ (.slice none 0 0)) = ZZ at hst hbe ⊢
        have q0 := hst.1.cell 0
        have q1 := hst.1.cell 1
        have q2 := hst.1.cell 2
        have q3 := hst.1.cell 3
        have q4 := hst.1.cell 4
        have q5 := hst.1.cell 5
        have q6 := hst.1.cell 6
        have q7 := hst.1.cell 7
        have q8 := hst.1.cell 8
        have q9 := hst.1.cell 9
        have q10 := hst.1.cell 10
        simp at q0 q1 q2 q3 q4 q5 q6 q7 q8 q9 q10
        exact bodyPost_ret (v := .tuple #[zeroM, .int .i64 90]) (by simp [results, Try.results11, go_sem, zeroM, q0, q1, q2, q3, q4, q5, q6, q7, q8, q9, q10]) rfl ⟨rfl, hbe⟩
      have h1' : ¬ (H : Int) < 1 := by omega
      by_cases h2 : N < H
      · have h2' : (N : Int) < (H : Int) := by omega
        clear ALL EALL EHH EL P1 P2 P3 P4 P5
        go_enter Try.func11, Try.ntmps11
        go_wp2_with fail
        rw [HVV.out]
        refine CF0.out.mono ?_
        rintro e w1 ⟨rfl, hw⟩
        replace hw := hw.symm
        subst hw
        go_wp2_with fail
        refine CF1.out.mono ?_
        rintro e w1 ⟨rfl, hw⟩
        replace hw := hw.symm
        subst hw
        go_wp2_with fail
        refine CF2.out.mono ?_
        rintro e w1 ⟨rfl, hw⟩
        replace hw := hw.symm
        subst hw
        go_wp2_with fail
        refine CF3.out.mono ?_
        rintro e w1 ⟨rfl, hw⟩
        replace hw := hw.symm
        subst hw
        go_wp2_with fail
        refine (CN.out _).mono ?_
        rintro e w1 ⟨rfl, m, hw⟩
        have kvn : Blk w1 w.heap.size zeroC 28 := by rw [hw]; exact KV.out.drewN m
        have hbn : Below w.heap.size w w1 := by rw [hw]; exact below_drewN HB.out m
        replace KV := hide kvn
        replace HB := hide hbn
        clear hw kvn hbn
        go_wp2_with fail
        refine (CH.out _).mono ?_
        rintro e w1 ⟨rfl, m, hw⟩
        have kvn : Blk w1 w.heap.size zeroC 28 := by rw [hw]; exact KV.out.drewN m
        have hbn : Below w.heap.size w w1 := by rw [hw]; exact below_drewN HB.out m
        replace KV := hide kvn
        replace HB := hide hbn
        clear hw kvn hbn
        go_wp2_with fail
        refine (CU.out _).mono ?_
        rintro e w1 ⟨rfl, m, hw⟩
        have kvn : Blk w1 w.heap.size zeroC 28 := by rw [hw]; exact KV.out.drewN m
        have hbn : Below w.heap.size w w1 := by rw [hw]; exact below_drewN HB.out m
        replace KV := hide kvn
        replace HB := hide hbn
        clear hw kvn hbn
        go_wp2_with fail
        refine (CO.out _).mono ?_
        rintro e w1 ⟨rfl, m, hw⟩
        have kvn : Blk w1 w.heap.size zeroC 28 := by rw [hw]; exact KV.out.drewN m
        have hbn : Below w.heap.size w w1 := by rw [hw]; exact below_drewN HB.out m
        replace KV := hide kvn
        replace HB := hide hbn
        clear hw kvn hbn
        have z0 := KV.out.cell 0
        have y0 := KV.out.frozen 0
        have z1 := KV.out.cell 1
        have y1 := KV.out.frozen 1
        have z2 := KV.out.cell 2
        have y2 := KV.out.frozen 2
        have z3 := KV.out.cell 3
        have y3 := KV.out.frozen 3
        have z4 := KV.out.cell 4
        have y4 := KV.out.frozen 4
        have z5 := KV.out.cell 5
        have y5 := KV.out.frozen 5
        have z6 := KV.out.cell 6
        have y6 := KV.out.frozen 6
        have z7 := KV.out.cell 7
        have y7 := KV.out.frozen 7
        have z8 := KV.out.cell 8
        have y8 := KV.out.frozen 8
        have z9 := KV.out.cell 9
        have y9 := KV.out.frozen 9
        have z10 := KV.out.cell 10
        have y10 := KV.out.frozen 10
        simp at z0 z1 z2 z3 z4 z5 z6 z7 z8 z9 z10
        have zlt := KV.out.lt
        go_wp2_with fail
        clear z0 y0 z1 y1 z2 y2 z3 y3 z4 y4 z5 y5 z6 y6 z7 y7 z8 y8 z9 y9 z10 y10 zlt
        refine (C52.out _).mono ?_
        rintro e w1 ⟨rfl, m, hw⟩
        have kvn : Blk w1 w.heap.size zeroC 28 := by rw [hw]; exact KV.out.drewN m
        have hbn : Below w.heap.size w w1 := by rw [hw]; exact below_drewN HB.out m
        replace KV := hide kvn
        replace HB := hide hbn
        clear hw kvn hbn
        have z0 := KV.out.cell 0
        have y0 := KV.out.frozen 0
        have z1 := KV.out.cell 1
        have y1 := KV.out.frozen 1
        have z2 := KV.out.cell 2
        have y2 := KV.out.frozen 2
        have z3 := KV.out.cell 3
        have y3 := KV.out.frozen 3
        have z4 := KV.out.cell 4
        have y4 := KV.out.frozen 4
        have z5 := KV.out.cell 5
        have y5 := KV.out.frozen 5
        have z6 := KV.out.cell 6
        have y6 := KV.out.frozen 6
        have z7 := KV.out.cell 7
        have y7 := KV.out.frozen 7
        have z8 := KV.out.cell 8
        have y8 := KV.out.frozen 8
        have z9 := KV.out.cell 9
        have y9 := KV.out.frozen 9
        have z10 := KV.out.cell 10
        have y10 := KV.out.frozen 10
        simp at z0 z1 z2 z3 z4 z5 z6 z7 z8 z9 z10
        have zlt := KV.out.lt
        go_wp2_with fail
        clear z0 y0 z1 y1 z2 y2 z3 y3 z4 y4 z5 y5 z6 y6 z7 y7 z8 y8 z9 y9 z10 y10 zlt
        refine (C32.out _).mono ?_
        rintro e w1 ⟨rfl, m, hw⟩
        have kvn : Blk w1 w.heap.size zeroC 28 := by rw [hw]; exact KV.out.drewN m
        have hbn : Below w.heap.size w w1 := by rw [hw]; exact below_drewN HB.out m
        replace KV := hide kvn
        replace HB := hide hbn
        clear hw kvn hbn
        have z0 := KV.out.cell 0
        have y0 := KV.out.frozen 0
        have z1 := KV.out.cell 1
        have y1 := KV.out.frozen 1
        have z2 := KV.out.cell 2
        have y2 := KV.out.frozen 2
        have z3 := KV.out.cell 3
        have y3 := KV.out.frozen 3
        have z4 := KV.out.cell 4
        have y4 := KV.out.frozen 4
        have z5 := KV.out.cell 5
        have y5 := KV.out.frozen 5
        have z6 := KV.out.cell 6
        have y6 := KV.out.frozen 6
        have z7 := KV.out.cell 7
        have y7 := KV.out.frozen 7
        have z8 := KV.out.cell 8
        have y8 := KV.out.frozen 8
        have z9 := KV.out.cell 9
        have y9 := KV.out.frozen 9
        have z10 := KV.out.cell 10
        have y10 := KV.out.frozen 10
        simp at z0 z1 z2 z3 z4 z5 z6 z7 z8 z9 z10
        have zlt := KV.out.lt
        go_wp2_with fail
        have hst := store11 KV.out (.int .i64 0) (.int .i64 0) (.int .i64 0) (.int .i64 0) (.int .i64 0) (.int .i64 0) (.int .i64 0) (.int .i64 0) (.bool false) (.slice none 0 0) (.slice none 0 0)
        have hbe := hst.2.below HB.out (Nat.le_refl _)
        clear z0 y0 z1 y1 z2 y2 z3 y3 z4 y4 z5 y5 z6 y6 z7 y7 z8 y8 z9 y9 z10 y10 zlt
        generalize (((((((((((w1.setCell ⟨w.heap.size, 0, none⟩ (.int .i64 0)).setCell ⟨w.heap.size, 1, none⟩ (.int .i64 0)).setCell ⟨w.heap.size, 2, none⟩ (.int .i64 0)).setCell ⟨w.heap.size, 3, none⟩ (.int .i64 0)).setCell ⟨w.heap.size, 4, none⟩ (.int .i64 0)).setCell ⟨w.heap.size, 5, none⟩ (.int .i64 0)).setCell ⟨w.heap.size, 6, none⟩ (.int .i64 0)).setCell ⟨w.heap.size, 7, none⟩ (.int .i64 0)).setCell ⟨w.heap.size, 8, none⟩ (.bool false)).setCell ⟨w.heap.size, 9, none⟩ (.slice none 0 0)).setCell ⟨w.heap.size, 10, none⟩ (.slice none 0 0)) = ZZ at hst hbe ⊢
        have q0 := hst.1.cell 0
        have q1 := hst.1.cell 1
        have q2 := hst.1.cell 2
        have q3 := hst.1.cell 3
        have q4 := hst.1.cell 4
        have q5 := hst.1.cell 5
        have q6 := hst.1.cell 6
        have q7 := hst.1.cell 7
        have q8 := hst.1.cell 8
        have q9 := hst.1.cell 9
        have q10 := hst.1.cell 10
        simp at q0 q1 q2 q3 q4 q5 q6 q7 q8 q9 q10
        exact bodyPost_ret (v := .tuple #[zeroM, .int .i64 90]) (by simp [results, Try.results11, go_sem, zeroM, q0, q1, q2, q3, q4, q5, q6, q7, q8, q9, q10]) rfl ⟨rfl, hbe⟩
      have h2' : ¬ (N : Int) < (H : Int) := by omega
      have h3 : (hx.size : Int) < 4 * (H : Int) + 2 * ((N : Int) - (H : Int)) := by
        have e := EALL.out
        rw [ALL.out, EHH.out, qE, wiB_t1 (show (1 : Int) ≤ (H : Int) by omega) (show (H : Int) ≤ (N : Int) by omega)] at e
        have e2 : LB = false := by simpa using e.symm
        have := EL.out e2
        omega
      clear h1 h2
      clear ALL EALL EHH EL P1 P2 P3 P4 P5
      go_enter Try.func11, Try.ntmps11
      go_wp2_with fail
      rw [HVV.out]
      refine CF0.out.mono ?_
      rintro e w1 ⟨rfl, hw⟩
      replace hw := hw.symm
      subst hw
      go_wp2_with fail
      refine CF1.out.mono ?_
      rintro e w1 ⟨rfl, hw⟩
      replace hw := hw.symm
      subst hw
      go_wp2_with fail
      refine CF2.out.mono ?_
      rintro e w1 ⟨rfl, hw⟩
      replace hw := hw.symm
      subst hw
      go_wp2_with fail
      refine CF3.out.mono ?_
      rintro e w1 ⟨rfl, hw⟩
      replace hw := hw.symm
      subst hw
      go_wp2_with fail
      refine (CN.out _).mono ?_
      rintro e w1 ⟨rfl, m, hw⟩
      have kvn : Blk w1 w.heap.size zeroC 28 := by rw [hw]; exact KV.out.drewN m
      have hbn : Below w.heap.size w w1 := by rw [hw]; exact below_drewN HB.out m
      replace KV := hide kvn
      replace HB := hide hbn
      clear hw kvn hbn
      go_wp2_with fail
      refine (CH.out _).mono ?_
      rintro e w1 ⟨rfl, m, hw⟩
      have kvn : Blk w1 w.heap.size zeroC 28 := by rw [hw]; exact KV.out.drewN m
      have hbn : Below w.heap.size w w1 := by rw [hw]; exact below_drewN HB.out m
      replace KV := hide kvn
      replace HB := hide hbn
      clear hw kvn hbn
      go_wp2_with fail
      refine (CU.out _).mono ?_
      rintro e w1 ⟨rfl, m, hw⟩
      have kvn : Blk w1 w.heap.size zeroC 28 := by rw [hw]; exact KV.out.drewN m
      have hbn : Below w.heap.size w w1 := by rw [hw]; exact below_drewN HB.out m
      replace KV := hide kvn
      replace HB := hide hbn
      clear hw kvn hbn
      go_wp2_with fail
      refine (CO.out _).mono ?_
      rintro e w1 ⟨rfl, m, hw⟩
      have kvn : Blk w1 w.heap.size zeroC 28 := by rw [hw]; exact KV.out.drewN m
      have hbn : Below w.heap.size w w1 := by rw [hw]; exact below_drewN HB.out m
      replace KV := hide kvn
      replace HB := hide hbn
      clear hw kvn hbn
      have z0 := KV.out.cell 0
      have y0 := KV.out.frozen 0
      have z1 := KV.out.cell 1
      have y1 := KV.out.frozen 1
      have z2 := KV.out.cell 2
      have y2 := KV.out.frozen 2
      have z3 := KV.out.cell 3
      have y3 := KV.out.frozen 3
      have z4 := KV.out.cell 4
      have y4 := KV.out.frozen 4
      have z5 := KV.out.cell 5
      have y5 := KV.out.frozen 5
      have z6 := KV.out.cell 6
      have y6 := KV.out.frozen 6
      have z7 := KV.out.cell 7
      have y7 := KV.out.frozen 7
      have z8 := KV.out.cell 8
      have y8 := KV.out.frozen 8
      have z9 := KV.out.cell 9
      have y9 := KV.out.frozen 9
      have z10 := KV.out.cell 10
      have y10 := KV.out.frozen 10
      simp at z0 z1 z2 z3 z4 z5 z6 z7 z8 z9 z10
      have zlt := KV.out.lt
      go_wp2_with fail
      clear z0 y0 z1 y1 z2 y2 z3 y3 z4 y4 z5 y5 z6 y6 z7 y7 z8 y8 z9 y9 z10 y10 zlt
      refine (C52.out _).mono ?_
      rintro e w1 ⟨rfl, m, hw⟩
      have kvn : Blk w1 w.heap.size zeroC 28 := by rw [hw]; exact KV.out.drewN m
      have hbn : Below w.heap.size w w1 := by rw [hw]; exact below_drewN HB.out m
      replace KV := hide kvn
      replace HB := hide hbn
      clear hw kvn hbn
      have z0 := KV.out.cell 0
      have y0 := KV.out.frozen 0
      have z1 := KV.out.cell 1
      have y1 := KV.out.frozen 1
      have z2 := KV.out.cell 2
      have y2 := KV.out.frozen 2
      have z3 := KV.out.cell 3
      have y3 := KV.out.frozen 3
      have z4 := KV.out.cell 4
      have y4 := KV.out.frozen 4
      have z5 := KV.out.cell 5
      have y5 := KV.out.frozen 5
      have z6 := KV.out.cell 6
      have y6 := KV.out.frozen 6
      have z7 := KV.out.cell 7
      have y7 := KV.out.frozen 7
      have z8 := KV.out.cell 8
      have y8 := KV.out.frozen 8
      have z9 := KV.out.cell 9
      have y9 := KV.out.frozen 9
      have z10 := KV.out.cell 10
      have y10 := KV.out.frozen 10
      simp at z0 z1 z2 z3 z4 z5 z6 z7 z8 z9 z10
      have zlt := KV.out.lt
      go_wp2_with fail
      clear z0 y0 z1 y1 z2 y2 z3 y3 z4 y4 z5 y5 z6 y6 z7 y7 z8 y8 z9 y9 z10 y10 zlt
      refine (C32.out _).mono ?_
      rintro e w1 ⟨rfl, m, hw⟩
      have kvn : Blk w1 w.heap.size zeroC 28 := by rw [hw]; exact KV.out.drewN m
      have hbn : Below w.heap.size w w1 := by rw [hw]; exact below_drewN HB.out m
      replace KV := hide kvn
      replace HB := hide hbn
      clear hw kvn hbn
      have z0 := KV.out.cell 0
      have y0 := KV.out.frozen 0
      have z1 := KV.out.cell 1
      have y1 := KV.out.frozen 1
      have z2 := KV.out.cell 2
      have y2 := KV.out.frozen 2
      have z3 := KV.out.cell 3
      have y3 := KV.out.frozen 3
      have z4 := KV.out.cell 4
      have y4 := KV.out.frozen 4
      have z5 := KV.out.cell 5
      have y5 := KV.out.frozen 5
      have z6 := KV.out.cell 6
      have y6 := KV.out.frozen 6
      have z7 := KV.out.cell 7
      have y7 := KV.out.frozen 7
      have z8 := KV.out.cell 8
      have y8 := KV.out.frozen 8
      have z9 := KV.out.cell 9
      have y9 := KV.out.frozen 9
      have z10 := KV.out.cell 10
      have y10 := KV.out.frozen 10
      simp at z0 z1 z2 z3 z4 z5 z6 z7 z8 z9 z10
      have zlt := KV.out.lt
      go_wp2_with fail
      have hst := store11 KV.out (.int .i64 0) (.int .i64 0) (.int .i64 0) (.int .i64 0) (.int .i64 0) (.int .i64 0) (.int .i64 0) (.int .i64 0) (.bool false) (.slice none 0 0) (.slice none 0 0)
      have hbe := hst.2.below HB.out (Nat.le_refl _)
      clear z0 y0 z1 y1 z2 y2 z3 y3 z4 y4 z5 y5 z6 y6 z7 y7 z8 y8 z9 y9 z10 y10 zlt
      generalize (((((((((((w1.setCell ⟨w.heap.size, 0, none⟩ (.int .i64 0)).setCell ⟨w.heap.size, 1, none⟩ (.int .i64 0)).setCell ⟨w.heap.size, 2, none⟩ (.int .i64 0)).setCell ⟨w.heap.size, 3, none⟩ (.int .i64 0)).setCell ⟨w.heap.size, 4, none⟩ (.int .i64 0)).setCell ⟨w.heap.size, 5, none⟩ (.int .i64 0)).setCell ⟨w.heap.size, 6, none⟩ (.int .i64 0)).setCell ⟨w.heap.size, 7, none⟩ (.int .i64 0)).setCell ⟨w.heap.size, 8, none⟩ (.bool false)).setCell ⟨w.heap.size, 9, none⟩ (.slice none 0 0)).setCell ⟨w.heap.size, 10, none⟩ (.slice none 0 0)) = ZZ at hst hbe ⊢
      have q0 := hst.1.cell 0
      have q1 := hst.1.cell 1
      have q2 := hst.1.cell 2
      have q3 := hst.1.cell 3
      have q4 := hst.1.cell 4
      have q5 := hst.1.cell 5
      have q6 := hst.1.cell 6
      have q7 := hst.1.cell 7
      have q8 := hst.1.cell 8
      have q9 := hst.1.cell 9
      have q10 := hst.1.cell 10
      simp at q0 q1 q2 q3 q4 q5 q6 q7 q8 q9 q10
      exact bodyPost_ret (v := .tuple #[zeroM, .int .i64 90]) (by simp [results, Try.results11, go_sem, zeroM, q0, q1, q2, q3, q4, q5, q6, q7, q8, q9, q10]) rfl ⟨rfl, hbe⟩
  · have jA : ((mx.extract 0 4).toList == [0, 0, 80, 0]) = true := by have h := P1.out; rw [qA] at h; exact h.symm
    have iA : ((mx.extract 0 4).toList != [0, 0, 80, 0]) = false := by unfold bne; rw [jA]; rfl
    rw [qA] at EMX
    simp only [Bool.or_true, Bool.true_or, Bool.true_and] at EMX
    by_cases n1 : N < 1
    · have n1' : (N : Int) < 1 := by omega
      clear ALL EALL EMX EHD EHH EL P1 P2 P3 P4 P5
      go_enter Try.func11, Try.ntmps11
      go_wp2_with fail
      rw [HVV.out]
      refine CF0.out.mono ?_
      rintro e w1 ⟨rfl, hw⟩
      replace hw := hw.symm
      subst hw
      go_wp2_with fail
      refine CF1.out.mono ?_
      rintro e w1 ⟨rfl, hw⟩
      replace hw := hw.symm
      subst hw
      go_wp2_with fail
      refine CF2.out.mono ?_
      rintro e w1 ⟨rfl, hw⟩
      replace hw := hw.symm
      subst hw
      go_wp2_with fail
      refine CF3.out.mono ?_
      rintro e w1 ⟨rfl, hw⟩
      replace hw := hw.symm
      subst hw
      go_wp2_with fail
      refine (CN.out _).mono ?_
      rintro e w1 ⟨rfl, m, hw⟩
      have kvn : Blk w1 w.heap.size zeroC 28 := by rw [hw]; exact KV.out.drewN m
      have hbn : Below w.heap.size w w1 := by rw [hw]; exact below_drewN HB.out m
      replace KV := hide kvn
      replace HB := hide hbn
      clear hw kvn hbn
      go_wp2_with fail
      refine (CH.out _).mono ?_
      rintro e w1 ⟨rfl, m, hw⟩
      have kvn : Blk w1 w.heap.size zeroC 28 := by rw [hw]; exact KV.out.drewN m
      have hbn : Below w.heap.size w w1 := by rw [hw]; exact below_drewN HB.out m
      replace KV := hide kvn
      replace HB := hide hbn
      clear hw kvn hbn
      go_wp2_with fail
      refine (CU.out _).mono ?_
      rintro e w1 ⟨rfl, m, hw⟩
      have kvn : Blk w1 w.heap.size zeroC 28 := by rw [hw]; exact KV.out.drewN m
      have hbn : Below w.heap.size w w1 := by rw [hw]; exact below_drewN HB.out m
      replace KV := hide kvn
      replace HB := hide hbn
      clear hw kvn hbn
      go_wp2_with fail
      refine (CO.out _).mono ?_
      rintro e w1 ⟨rfl, m, hw⟩
      have kvn : Blk w1 w.heap.size zeroC 28 := by rw [hw]; exact KV.out.drewN m
      have hbn : Below w.heap.size w w1 := by rw [hw]; exact below_drewN HB.out m
      replace KV := hide kvn
      replace HB := hide hbn
      clear hw kvn hbn
      have z0 := KV.out.cell 0
      have y0 := KV.out.frozen 0
      have z1 := KV.out.cell 1
      have y1 := KV.out.frozen 1
      have z2 := KV.out.cell 2
      have y2 := KV.out.frozen 2
      have z3 := KV.out.cell 3
      have y3 := KV.out.frozen 3
      have z4 := KV.out.cell 4
      have y4 := KV.out.frozen 4
      have z5 := KV.out.cell 5
      have y5 := KV.out.frozen 5
      have z6 := KV.out.cell 6
      have y6 := KV.out.frozen 6
      have z7 := KV.out.cell 7
      have y7 := KV.out.frozen 7
      have z8 := KV.out.cell 8
      have y8 := KV.out.frozen 8
      have z9 := KV.out.cell 9
      have y9 := KV.out.frozen 9
      have z10 := KV.out.cell 10
      have y10 := KV.out.frozen 10
      simp at z0 z1 z2 z3 z4 z5 z6 z7 z8 z9 z10
      have zlt := KV.out.lt
      go_wp2_with fail
      have hst := store11 KV.out (.int .i64 0) (.int .i64 0) (.int .i64 0) (.int .i64 0) (.int .i64 0) (.int .i64 0) (.int .i64 0) (.int .i64 0) (.bool false) (.slice none 0 0) (.slice none 0 0)
      have hbe := hst.2.below HB.out (Nat.le_refl _)
      clear z0 y0 z1 y1 z2 y2 z3 y3 z4 y4 z5 y5 z6 y6 z7 y7 z8 y8 z9 y9 z10 y10 zlt
      generalize (((((((((((w1.setCell ⟨w.heap.size, 0, none⟩ (.int .i64 0)).setCell ⟨w.heap.size, 1, none⟩ (.int .i64 0)).setCell ⟨w.heap.size, 2, none⟩ (.int .i64 0)).setCell ⟨w.heap.size, 3, none⟩ (.int .i64 0)).setCell ⟨w.heap.size, 4, none⟩ (.int .i64 0)).setCell ⟨w.heap.size, 5, none⟩ (.int .i64 0)).setCell ⟨w.heap.size, 6, none⟩ (.int .i64 0)).setCell ⟨w.heap.size, 7, none⟩ (.int .i64 0)).setCell ⟨w.heap.size, 8, none⟩ (.bool false)).setCell ⟨w.heap.size, 9, none⟩ (.slice none 0 0)).setCell ⟨w.heap.size, 10, none⟩ (.slice none 0 0)) = ZZ at hst hbe ⊢
      have q0 := hst.1.cell 0
      have q1 := hst.1.cell 1
      have q2 := hst.1.cell 2
      have q3 := hst.1.cell 3
      have q4 := hst.1.cell 4
      have q5 := hst.1.cell 5
      have q6 := hst.1.cell 6
      have q7 := hst.1.cell 7
      have q8 := hst.1.cell 8
      have q9 := hst.1.cell 9
      have q10 := hst.1.cell 10
      simp at q0 q1 q2 q3 q4 q5 q6 q7 q8 q9 q10
      exact bodyPost_ret (v := .tuple #[zeroM, .int .i64 90]) (by simp [results, Try.results11, go_sem, zeroM, q0, q1, q2, q3, q4, q5, q6, q7, q8, q9, q10]) rfl ⟨rfl, hbe⟩
    have n1' : ¬ (N : Int) < 1 := by omega
    by_cases n2' : 4096 < N
    · have n3 : (4096 : Int) < (N : Int) := by omega
      clear n2'
      clear ALL EALL EMX EHD EHH EL P1 P2 P3 P4 P5
      go_enter Try.func11, Try.ntmps11
      go_wp2_with fail
      rw [HVV.out]
      refine CF0.out.mono ?_
      rintro e w1 ⟨rfl, hw⟩
      replace hw := hw.symm
      subst hw
      go_wp2_with fail
      refine CF1.out.mono ?_
      rintro e w1 ⟨rfl, hw⟩
      replace hw := hw.symm
      subst hw
      go_wp2_with fail
      refine CF2.out.mono ?_
      rintro e w1 ⟨rfl, hw⟩
      replace hw := hw.symm
      subst hw
      go_wp2_with fail
      refine CF3.out.mono ?_
      rintro e w1 ⟨rfl, hw⟩
      replace hw := hw.symm
      subst hw
      go_wp2_with fail
      refine (CN.out _).mono ?_
      rintro e w1 ⟨rfl, m, hw⟩
      have kvn : Blk w1 w.heap.size zeroC 28 := by rw [hw]; exact KV.out.drewN m
      have hbn : Below w.heap.size w w1 := by rw [hw]; exact below_drewN HB.out m
      replace KV := hide kvn
      replace HB := hide hbn
      clear hw kvn hbn
      go_wp2_with fail
      refine (CH.out _).mono ?_
      rintro e w1 ⟨rfl, m, hw⟩
      have kvn : Blk w1 w.heap.size zeroC 28 := by rw [hw]; exact KV.out.drewN m
      have hbn : Below w.heap.size w w1 := by rw [hw]; exact below_drewN HB.out m
      replace KV := hide kvn
      replace HB := hide hbn
      clear hw kvn hbn
      go_wp2_with fail
      refine (CU.out _).mono ?_
      rintro e w1 ⟨rfl, m, hw⟩
      have kvn : Blk w1 w.heap.size zeroC 28 := by rw [hw]; exact KV.out.drewN m
      have hbn : Below w.heap.size w w1 := by rw [hw]; exact below_drewN HB.out m
      replace KV := hide kvn
      replace HB := hide hbn
      clear hw kvn hbn
      go_wp2_with fail
      refine (CO.out _).mono ?_
      rintro e w1 ⟨rfl, m, hw⟩
      have kvn : Blk w1 w.heap.size zeroC 28 := by rw [hw]; exact KV.out.drewN m
      have hbn : Below w.heap.size w w1 := by rw [hw]; exact below_drewN HB.out m
      replace KV := hide kvn
      replace HB := hide hbn
      clear hw kvn hbn
      have z0 := KV.out.cell 0
      have y0 := KV.out.frozen 0
      have z1 := KV.out.cell 1
      have y1 := KV.out.frozen 1
      have z2 := KV.out.cell 2
      have y2 := KV.out.frozen 2
      have z3 := KV.out.cell 3
      have y3 := KV.out.frozen 3
      have z4 := KV.out.cell 4
      have y4 := KV.out.frozen 4
      have z5 := KV.out.cell 5
      have y5 := KV.out.frozen 5
      have z6 := KV.out.cell 6
      have y6 := KV.out.frozen 6
      have z7 := KV.out.cell 7
      have y7 := KV.out.frozen 7
      have z8 := KV.out.cell 8
      have y8 := KV.out.frozen 8
      have z9 := KV.out.cell 9
      have y9 := KV.out.frozen 9
      have z10 := KV.out.cell 10
      have y10 := KV.out.frozen 10
      simp at z0 z1 z2 z3 z4 z5 z6 z7 z8 z9 z10
      have zlt := KV.out.lt
      go_wp2_with fail
      have hst := store11 KV.out (.int .i64 0) (.int .i64 0) (.int .i64 0) (.int .i64 0) (.int .i64 0) (.int .i64 0) (.int .i64 0) (.int .i64 0) (.bool false) (.slice none 0 0) (.slice none 0 0)
      have hbe := hst.2.below HB.out (Nat.le_refl _)
      clear z0 y0 z1 y1 z2 y2 z3 y3 z4 y4 z5 y5 z6 y6 z7 y7 z8 y8 z9 y9 z10 y10 zlt
      generalize (((((((((((w1.setCell ⟨w.heap.size, 0, none⟩ (.int .i64 0)).setCell ⟨w.heap.size, 1, none⟩ (.int .i64 0)).setCell ⟨w.heap.size, 2, none⟩ (.int .i64 0)).setCell ⟨w.heap.size, 3, none⟩ (.int .i64 0)).setCell ⟨w.heap.size, 4, none⟩ (.int .i64 0)).setCell ⟨w.heap.size, 5, none⟩ (.int .i64 0)).setCell ⟨w.heap.size, 6, none⟩ (.int .i64 0)).setCell ⟨w.heap.size, 7, none⟩ (.int .i64 0)).setCell ⟨w.heap.size, 8, none⟩ (.bool false)).setCell ⟨w.heap.size, 9, none⟩ (.slice none 0 0)).setCell ⟨w.heap.size, 10, none⟩ (.slice none 0 0)) = ZZ at hst hbe ⊢
      have q0 := hst.1.cell 0
      have q1 := hst.1.cell 1
      have q2 := hst.1.cell 2
      have q3 := hst.1.cell 3
      have q4 := hst.1.cell 4
      have q5 := hst.1.cell 5
      have q6 := hst.1.cell 6
      have q7 := hst.1.cell 7
      have q8 := hst.1.cell 8
      have q9 := hst.1.cell 9
      have q10 := hst.1.cell 10
      simp at q0 q1 q2 q3 q4 q5 q6 q7 q8 q9 q10
      exact bodyPost_ret (v := .tuple #[zeroM, .int .i64 90]) (by simp [results, Try.results11, go_sem, zeroM, q0, q1, q2, q3, q4, q5, q6, q7, q8, q9, q10]) rfl ⟨rfl, hbe⟩
    have n3 : ¬ (4096 : Int) < (N : Int) := by omega
    have tmx : mxB mx = true := by rw [EMX.out]; exact wiB_t1 (by omega) (by omega)
    rw [tmx, Bool.true_and] at EALL
    clear n1 n2' tmx EMX
    cases qC : sayB hd 0 verS
    · have jC : ((hd.extract 0 4).toList == [0, 1, 0, 0]) = false := by have h := P3.out; rw [qC] at h; exact h.symm
      have iC : ((hd.extract 0 4).toList != [0, 1, 0, 0]) = true := by unfold bne; rw [jC]; rfl
      clear ALL EALL EHD EHH EL P1 P2 P3 P4 P5
      go_enter Try.func11, Try.ntmps11
      go_wp2_with fail
      rw [HVV.out]
      refine CF0.out.mono ?_
      rintro e w1 ⟨rfl, hw⟩
      replace hw := hw.symm
      subst hw
      go_wp2_with fail
      refine CF1.out.mono ?_
      rintro e w1 ⟨rfl, hw⟩
      replace hw := hw.symm
      subst hw
      go_wp2_with fail
      refine CF2.out.mono ?_
      rintro e w1 ⟨rfl, hw⟩
      replace hw := hw.symm
      subst hw
      go_wp2_with fail
      refine CF3.out.mono ?_
      rintro e w1 ⟨rfl, hw⟩
      replace hw := hw.symm
      subst hw
      go_wp2_with fail
      refine (CN.out _).mono ?_
      rintro e w1 ⟨rfl, m, hw⟩
      have kvn : Blk w1 w.heap.size zeroC 28 := by rw [hw]; exact KV.out.drewN m
      have hbn : Below w.heap.size w w1 := by rw [hw]; exact below_drewN HB.out m
      replace KV := hide kvn
      replace HB := hide hbn
      clear hw kvn hbn
      go_wp2_with fail
      refine (CH.out _).mono ?_
      rintro e w1 ⟨rfl, m, hw⟩
      have kvn : Blk w1 w.heap.size zeroC 28 := by rw [hw]; exact KV.out.drewN m
      have hbn : Below w.heap.size w w1 := by rw [hw]; exact below_drewN HB.out m
      replace KV := hide kvn
      replace HB := hide hbn
      clear hw kvn hbn
      go_wp2_with fail
      refine (CU.out _).mono ?_
      rintro e w1 ⟨rfl, m, hw⟩
      have kvn : Blk w1 w.heap.size zeroC 28 := by rw [hw]; exact KV.out.drewN m
      have hbn : Below w.heap.size w w1 := by rw [hw]; exact below_drewN HB.out m
      replace KV := hide kvn
      replace HB := hide hbn
      clear hw kvn hbn
      go_wp2_with fail
      refine (CO.out _).mono ?_
      rintro e w1 ⟨rfl, m, hw⟩
      have kvn : Blk w1 w.heap.size zeroC 28 := by rw [hw]; exact KV.out.drewN m
      have hbn : Below w.heap.size w w1 := by rw [hw]; exact below_drewN HB.out m
      replace KV := hide kvn
      replace HB := hide hbn
      clear hw kvn hbn
      have z0 := KV.out.cell 0
      have y0 := KV.out.frozen 0
      have z1 := KV.out.cell 1
      have y1 := KV.out.frozen 1
      have z2 := KV.out.cell 2
      have y2 := KV.out.frozen 2
      have z3 := KV.out.cell 3
      have y3 := KV.out.frozen 3
      have z4 := KV.out.cell 4
      have y4 := KV.out.frozen 4
      have z5 := KV.out.cell 5
      have y5 := KV.out.frozen 5
      have z6 := KV.out.cell 6
      have y6 := KV.out.frozen 6
      have z7 := KV.out.cell 7
      have y7 := KV.out.frozen 7
      have z8 := KV.out.cell 8
      have y8 := KV.out.frozen 8
      have z9 := KV.out.cell 9
      have y9 := KV.out.frozen 9
      have z10 := KV.out.cell 10
      have y10 := KV.out.frozen 10
      simp at z0 z1 z2 z3 z4 z5 z6 z7 z8 z9 z10
      have zlt := KV.out.lt
      go_wp2_with fail
      have hst := store11 KV.out (.int .i64 0) (.int .i64 0) (.int .i64 0) (.int .i64 0) (.int .i64 0) (.int .i64 0) (.int .i64 0) (.int .i64 0) (.bool false) (.slice none 0 0) (.slice none 0 0)
      have hbe := hst.2.below HB.out (Nat.le_refl _)
      clear z0 y0 z1 y1 z2 y2 z3 y3 z4 y4 z5 y5 z6 y6 z7 y7 z8 y8 z9 y9 z10 y10 zlt
      generalize (((((((((((w1.setCell ⟨w.heap.size, 0, none⟩ (.int .i64 0)).setCell ⟨w.heap.size, 1, none⟩ (.int .i64 0)).setCell ⟨w.heap.size, 2, none⟩ (.int .i64 0)).setCell ⟨w.heap.size, 3, none⟩ (.int .i64 0)).setCell ⟨w.heap.size, 4, none⟩ (.int .i64 0)).setCell ⟨w.heap.size, 5, none⟩ (.int .i64 0)).setCell ⟨w.heap.size, 6, none⟩ (.int .i64 0)).setCell ⟨w.heap.size, 7, none⟩ (.int .i64 0)).setCell ⟨w.heap.size, 8, none⟩ (.bool false)).setCell ⟨w.heap.size, 9, none⟩ (.slice none 0 0)).setCell ⟨w.heap.size, 10, none⟩ (.slice none 0 0)) = ZZ at hst hbe ⊢
      have q0 := hst.1.cell 0
      have q1 := hst.1.cell 1
      have q2 := hst.1.cell 2
      have q3 := hst.1.cell 3
      have q4 := hst.1.cell 4
      have q5 := hst.1.cell 5
      have q6 := hst.1.cell 6
      have q7 := hst.1.cell 7
      have q8 := hst.1.cell 8
      have q9 := hst.1.cell 9
      have q10 := hst.1.cell 10
      simp at q0 q1 q2 q3 q4 q5 q6 q7 q8 q9 q10
      exact bodyPost_ret (v := .tuple #[zeroM, .int .i64 90]) (by simp [results, Try.results11, go_sem, zeroM, q0, q1, q2, q3, q4, q5, q6, q7, q8, q9, q10]) rfl ⟨rfl, hbe⟩
    have jC : ((hd.extract 0 4).toList == [0, 1, 0, 0]) = true := by have h := P3.out; rw [qC] at h; exact h.symm
    have iC : ((hd.extract 0 4).toList != [0, 1, 0, 0]) = false := by unfold bne; rw [jC]; rfl
    cases qD : sayB hd 12 magicS
    · have jD : ((hd.extract 12 16).toList == [95, 15, 60, 245]) = false := by have h := P4.out; rw [qD] at h; exact h.symm
      have iD : ((hd.extract 12 16).toList != [95, 15, 60, 245]) = true := by unfold bne; rw [jD]; rfl
      clear ALL EALL EHD EHH EL P1 P2 P3 P4 P5
      go_enter Try.func11, Try.ntmps11
      go_wp2_with fail
      rw [HVV.out]
      refine CF0.out.mono ?_
      rintro e w1 ⟨rfl, hw⟩
      replace hw := hw.symm
      subst hw
      go_wp2_with fail
      refine CF1.out.mono ?_
      rintro e w1 ⟨rfl, hw⟩
      replace hw := hw.symm
      subst hw
      go_wp2_with fail
      refine CF2.out.mono ?_
      rintro e w1 ⟨rfl, hw⟩
      replace hw := hw.symm
      subst hw
      go_wp2_with fail
      refine CF3.out.mono ?_
      rintro e w1 ⟨rfl, hw⟩
      replace hw := hw.symm
      subst hw
      go_wp2_with fail
      refine (CN.out _).mono ?_
      rintro e w1 ⟨rfl, m, hw⟩
      have kvn : Blk w1 w.heap.size zeroC 28 := by rw [hw]; exact KV.out.drewN m
      have hbn : Below w.heap.size w w1 := by rw [hw]; exact below_drewN HB.out m
      replace KV := hide kvn
      replace HB := hide hbn
      clear hw kvn hbn
      go_wp2_with fail
      refine (CH.out _).mono ?_
      rintro e w1 ⟨rfl, m, hw⟩
      have kvn : Blk w1 w.heap.size zeroC 28 := by rw [hw]; exact KV.out.drewN m
      have hbn : Below w.heap.size w w1 := by rw [hw]; exact below_drewN HB.out m
      replace KV := hide kvn
      replace HB := hide hbn
      clear hw kvn hbn
      go_wp2_with fail
      refine (CU.out _).mono ?_
      rintro e w1 ⟨rfl, m, hw⟩
      have kvn : Blk w1 w.heap.size zeroC 28 := by rw [hw]; exact KV.out.drewN m
      have hbn : Below w.heap.size w w1 := by rw [hw]; exact below_drewN HB.out m
      replace KV := hide kvn
      replace HB := hide hbn
      clear hw kvn hbn
      go_wp2_with fail
      refine (CO.out _).mono ?_
      rintro e w1 ⟨rfl, m, hw⟩
      have kvn : Blk w1 w.heap.size zeroC 28 := by rw [hw]; exact KV.out.drewN m
      have hbn : Below w.heap.size w w1 := by rw [hw]; exact below_drewN HB.out m
      replace KV := hide kvn
      replace HB := hide hbn
      clear hw kvn hbn
      have z0 := KV.out.cell 0
      have y0 := KV.out.frozen 0
      have z1 := KV.out.cell 1
      have y1 := KV.out.frozen 1
      have z2 := KV.out.cell 2
      have y2 := KV.out.frozen 2
      have z3 := KV.out.cell 3
      have y3 := KV.out.frozen 3
      have z4 := KV.out.cell 4
      have y4 := KV.out.frozen 4
      have z5 := KV.out.cell 5
      have y5 := KV.out.frozen 5
      have z6 := KV.out.cell 6
      have y6 := KV.out.frozen 6
      have z7 := KV.out.cell 7
      have y7 := KV.out.frozen 7
      have z8 := KV.out.cell 8
      have y8 := KV.out.frozen 8
      have z9 := KV.out.cell 9
      have y9 := KV.out.frozen 9
      have z10 := KV.out.cell 10
      have y10 := KV.out.frozen 10
      simp at z0 z1 z2 z3 z4 z5 z6 z7 z8 z9 z10
      have zlt := KV.out.lt
      go_wp2_with fail
      have hst := store11 KV.out (.int .i64 0) (.int .i64 0) (.int .i64 0) (.int .i64 0) (.int .i64 0) (.int .i64 0) (.int .i64 0) (.int .i64 0) (.bool false) (.slice none 0 0) (.slice none 0 0)
      have hbe := hst.2.below HB.out (Nat.le_refl _)
      clear z0 y0 z1 y1 z2 y2 z3 y3 z4 y4 z5 y5 z6 y6 z7 y7 z8 y8 z9 y9 z10 y10 zlt
      generalize (((((((((((w1.setCell ⟨w.heap.size, 0, none⟩ (.int .i64 0)).setCell ⟨w.heap.size, 1, none⟩ (.int .i64 0)).setCell ⟨w.heap.size, 2, none⟩ (.int .i64 0)).setCell ⟨w.heap.size, 3, none⟩ (.int .i64 0)).setCell ⟨w.heap.size, 4, none⟩ (.int .i64 0)).setCell ⟨w.heap.size, 5, none⟩ (.int .i64 0)).setCell ⟨w.heap.size, 6, none⟩ (.int .i64 0)).setCell ⟨w.heap.size, 7, none⟩ (.int .i64 0)).setCell ⟨w.heap.size, 8, none⟩ (.bool false)).setCell ⟨w.heap.size, 9, none⟩ (.slice none 0 0)).setCell ⟨w.heap.size, 10, none⟩ (.slice none 0 0)) = ZZ at hst hbe ⊢
      have q0 := hst.1.cell 0
      have q1 := hst.1.cell 1
      have q2 := hst.1.cell 2
      have q3 := hst.1.cell 3
      have q4 := hst.1.cell 4
      have q5 := hst.1.cell 5
      have q6 := hst.1.cell 6
      have q7 := hst.1.cell 7
      have q8 := hst.1.cell 8
      have q9 := hst.1.cell 9
      have q10 := hst.1.cell 10
      simp at q0 q1 q2 q3 q4 q5 q6 q7 q8 q9 q10
      exact bodyPost_ret (v := .tuple #[zeroM, .int .i64 90]) (by simp [results, Try.results11, go_sem, zeroM, q0, q1, q2, q3, q4, q5, q6, q7, q8, q9, q10]) rfl ⟨rfl, hbe⟩
    have jD : ((hd.extract 12 16).toList == [95, 15, 60, 245]) = true := by have h := P4.out; rw [qD] at h; exact h.symm
    have iD : ((hd.extract 12 16).toList != [95, 15, 60, 245]) = false := by unfold bne; rw [jD]; rfl
    by_cases v1 : UU < 16
    · have v1' : (UU : Int) < 16 := by omega
      clear ALL EALL EHD EHH EL P1 P2 P3 P4 P5
      go_enter Try.func11, Try.ntmps11
      go_wp2_with fail
      rw [HVV.out]
      refine CF0.out.mono ?_
      rintro e w1 ⟨rfl, hw⟩
      replace hw := hw.symm
      subst hw
      go_wp2_with fail
      refine CF1.out.mono ?_
      rintro e w1 ⟨rfl, hw⟩
      replace hw := hw.symm
      subst hw
      go_wp2_with fail
      refine CF2.out.mono ?_
      rintro e w1 ⟨rfl, hw⟩
      replace hw := hw.symm
      subst hw
      go_wp2_with fail
      refine CF3.out.mono ?_
      rintro e w1 ⟨rfl, hw⟩
      replace hw := hw.symm
      subst hw
      go_wp2_with fail
      refine (CN.out _).mono ?_
      rintro e w1 ⟨rfl, m, hw⟩
      have kvn : Blk w1 w.heap.size zeroC 28 := by rw [hw]; exact KV.out.drewN m
      have hbn : Below w.heap.size w w1 := by rw [hw]; exact below_drewN HB.out m
      replace KV := hide kvn
      replace HB := hide hbn
      clear hw kvn hbn
      go_wp2_with fail
      refine (CH.out _).mono ?_
      rintro e w1 ⟨rfl, m, hw⟩
      have kvn : Blk w1 w.heap.size zeroC 28 := by rw [hw]; exact KV.out.drewN m
      have hbn : Below w.heap.size w w1 := by rw [hw]; exact below_drewN HB.out m
      replace KV := hide kvn
      replace HB := hide hbn
      clear hw kvn hbn
      go_wp2_with fail
      refine (CU.out _).mono ?_
      rintro e w1 ⟨rfl, m, hw⟩
      have kvn : Blk w1 w.heap.size zeroC 28 := by rw [hw]; exact KV.out.drewN m
      have hbn : Below w.heap.size w w1 := by rw [hw]; exact below_drewN HB.out m
      replace KV := hide kvn
      replace HB := hide hbn
      clear hw kvn hbn
      go_wp2_with fail
      refine (CO.out _).mono ?_
      rintro e w1 ⟨rfl, m, hw⟩
      have kvn : Blk w1 w.heap.size zeroC 28 := by rw [hw]; exact KV.out.drewN m
      have hbn : Below w.heap.size w w1 := by rw [hw]; exact below_drewN HB.out m
      replace KV := hide kvn
      replace HB := hide hbn
      clear hw kvn hbn
      have z0 := KV.out.cell 0
      have y0 := KV.out.frozen 0
      have z1 := KV.out.cell 1
      have y1 := KV.out.frozen 1
      have z2 := KV.out.cell 2
      have y2 := KV.out.frozen 2
      have z3 := KV.out.cell 3
      have y3 := KV.out.frozen 3
      have z4 := KV.out.cell 4
      have y4 := KV.out.frozen 4
      have z5 := KV.out.cell 5
      have y5 := KV.out.frozen 5
      have z6 := KV.out.cell 6
      have y6 := KV.out.frozen 6
      have z7 := KV.out.cell 7
      have y7 := KV.out.frozen 7
      have z8 := KV.out.cell 8
      have y8 := KV.out.frozen 8
      have z9 := KV.out.cell 9
      have y9 := KV.out.frozen 9
      have z10 := KV.out.cell 10
      have y10 := KV.out.frozen 10
      simp at z0 z1 z2 z3 z4 z5 z6 z7 z8 z9 z10
      have zlt := KV.out.lt
      go_wp2_with fail
      have hst := store11 KV.out (.int .i64 0) (.int .i64 0) (.int .i64 0) (.int .i64 0) (.int .i64 0) (.int .i64 0) (.int .i64 0) (.int .i64 0) (.bool false) (.slice none 0 0) (.slice none 0 0)
      have hbe := hst.2.below HB.out (Nat.le_refl _)
      clear z0 y0 z1 y1 z2 y2 z3 y3 z4 y4 z5 y5 z6 y6 z7 y7 z8 y8 z9 y9 z10 y10 zlt
      generalize (((((((((((w1.setCell ⟨w.heap.size, 0, none⟩ (.int .i64 0)).setCell ⟨w.heap.size, 1, none⟩ (.int .i64 0)).setCell ⟨w.heap.size, 2, none⟩ (.int .i64 0)).setCell ⟨w.heap.size, 3, none⟩ (.int .i64 0)).setCell ⟨w.heap.size, 4, none⟩ (.int .i64 0)).setCell ⟨w.heap.size, 5, none⟩ (.int .i64 0)).setCell ⟨w.heap.size, 6, none⟩ (.int .i64 0)).setCell ⟨w.heap.size, 7, none⟩ (.int .i64 0)).setCell ⟨w.heap.size, 8, none⟩ (.bool false)).setCell ⟨w.heap.size, 9, none⟩ (.slice none 0 0)).setCell ⟨w.heap.size, 10, none⟩ (.slice none 0 0)) = ZZ at hst hbe ⊢
      have q0 := hst.1.cell 0
      have q1 := hst.1.cell 1
      have q2 := hst.1.cell 2
      have q3 := hst.1.cell 3
      have q4 := hst.1.cell 4
      have q5 := hst.1.cell 5
      have q6 := hst.1.cell 6
      have q7 := hst.1.cell 7
      have q8 := hst.1.cell 8
      have q9 := hst.1.cell 9
      have q10 := hst.1.cell 10
      simp at q0 q1 q2 q3 q4 q5 q6 q7 q8 q9 q10
      exact bodyPost_ret (v := .tuple #[zeroM, .int .i64 90]) (by simp [results, Try.results11, go_sem, zeroM, q0, q1, q2, q3, q4, q5, q6, q7, q8, q9, q10]) rfl ⟨rfl, hbe⟩
    have v1' : ¬ (UU : Int) < 16 := by omega
    by_cases v2 : 16384 < UU
    · have v2' : (16384 : Int) < (UU : Int) := by omega
      clear v2
      clear ALL EALL EHD EHH EL P1 P2 P3 P4 P5
      go_enter Try.func11, Try.ntmps11
      go_wp2_with fail
      rw [HVV.out]
      refine CF0.out.mono ?_
      rintro e w1 ⟨rfl, hw⟩
      replace hw := hw.symm
      subst hw
      go_wp2_with fail
      refine CF1.out.mono ?_
      rintro e w1 ⟨rfl, hw⟩
      replace hw := hw.symm
      subst hw
      go_wp2_with fail
      refine CF2.out.mono ?_
      rintro e w1 ⟨rfl, hw⟩
      replace hw := hw.symm
      subst hw
      go_wp2_with fail
      refine CF3.out.mono ?_
      rintro e w1 ⟨rfl, hw⟩
      replace hw := hw.symm
      subst hw
      go_wp2_with fail
      refine (CN.out _).mono ?_
      rintro e w1 ⟨rfl, m, hw⟩
      have kvn : Blk w1 w.heap.size zeroC 28 := by rw [hw]; exact KV.out.drewN m
      have hbn : Below w.heap.size w w1 := by rw [hw]; exact below_drewN HB.out m
      replace KV := hide kvn
      replace HB := hide hbn
      clear hw kvn hbn
      go_wp2_with fail
      refine (CH.out _).mono ?_
      rintro e w1 ⟨rfl, m, hw⟩
      have kvn : Blk w1 w.heap.size zeroC 28 := by rw [hw]; exact KV.out.drewN m
      have hbn : Below w.heap.size w w1 := by rw [hw]; exact below_drewN HB.out m
      replace KV := hide kvn
      replace HB := hide hbn
      clear hw kvn hbn
      go_wp2_with fail
      refine (CU.out _).mono ?_
      rintro e w1 ⟨rfl, m, hw⟩
      have kvn : Blk w1 w.heap.size zeroC 28 := by rw [hw]; exact KV.out.drewN m
      have hbn : Below w.heap.size w w1 := by rw [hw]; exact below_drewN HB.out m
      replace KV := hide kvn
      replace HB := hide hbn
      clear hw kvn hbn
      go_wp2_with fail
      refine (CO.out _).mono ?_
      rintro e w1 ⟨rfl, m, hw⟩
      have kvn : Blk w1 w.heap.size zeroC 28 := by rw [hw]; exact KV.out.drewN m
      have hbn : Below w.heap.size w w1 := by rw [hw]; exact below_drewN HB.out m
      replace KV := hide kvn
      replace HB := hide hbn
      clear hw kvn hbn
      have z0 := KV.out.cell 0
      have y0 := KV.out.frozen 0
      have z1 := KV.out.cell 1
      have y1 := KV.out.frozen 1
      have z2 := KV.out.cell 2
      have y2 := KV.out.frozen 2
      have z3 := KV.out.cell 3
      have y3 := KV.out.frozen 3
      have z4 := KV.out.cell 4
      have y4 := KV.out.frozen 4
      have z5 := KV.out.cell 5
      have y5 := KV.out.frozen 5
      have z6 := KV.out.cell 6
      have y6 := KV.out.frozen 6
      have z7 := KV.out.cell 7
      have y7 := KV.out.frozen 7
      have z8 := KV.out.cell 8
      have y8 := KV.out.frozen 8
      have z9 := KV.out.cell 9
      have y9 := KV.out.frozen 9
      have z10 := KV.out.cell 10
      have y10 := KV.out.frozen 10
      simp at z0 z1 z2 z3 z4 z5 z6 z7 z8 z9 z10
      have zlt := KV.out.lt
      go_wp2_with fail
      have hst := store11 KV.out (.int .i64 0) (.int .i64 0) (.int .i64 0) (.int .i64 0) (.int .i64 0) (.int .i64 0) (.int .i64 0) (.int .i64 0) (.bool false) (.slice none 0 0) (.slice none 0 0)
      have hbe := hst.2.below HB.out (Nat.le_refl _)
      clear z0 y0 z1 y1 z2 y2 z3 y3 z4 y4 z5 y5 z6 y6 z7 y7 z8 y8 z9 y9 z10 y10 zlt
      generalize (((((((((((w1.setCell ⟨w.heap.size, 0, none⟩ (.int .i64 0)).setCell ⟨w.heap.size, 1, none⟩ (.int .i64 0)).setCell ⟨w.heap.size, 2, none⟩ (.int .i64 0)).setCell ⟨w.heap.size, 3, none⟩ (.int .i64 0)).setCell ⟨w.heap.size, 4, none⟩ (.int .i64 0)).setCell ⟨w.heap.size, 5, none⟩ (.int .i64 0)).setCell ⟨w.heap.size, 6, none⟩ (.int .i64 0)).setCell ⟨w.heap.size, 7, none⟩ (.int .i64 0)).setCell ⟨w.heap.size, 8, none⟩ (.bool false)).setCell ⟨w.heap.size, 9, none⟩ (.slice none 0 0)).setCell ⟨w.heap.size, 10, none⟩ (.slice none 0 0)) = ZZ at hst hbe ⊢
      have q0 := hst.1.cell 0
      have q1 := hst.1.cell 1
      have q2 := hst.1.cell 2
      have q3 := hst.1.cell 3
      have q4 := hst.1.cell 4
      have q5 := hst.1.cell 5
      have q6 := hst.1.cell 6
      have q7 := hst.1.cell 7
      have q8 := hst.1.cell 8
      have q9 := hst.1.cell 9
      have q10 := hst.1.cell 10
      simp at q0 q1 q2 q3 q4 q5 q6 q7 q8 q9 q10
      exact bodyPost_ret (v := .tuple #[zeroM, .int .i64 90]) (by simp [results, Try.results11, go_sem, zeroM, q0, q1, q2, q3, q4, q5, q6, q7, q8, q9, q10]) rfl ⟨rfl, hbe⟩
    have v2' : ¬ (16384 : Int) < (UU : Int) := by omega
    by_cases v3 : 1 < OO
    · have v3' : (1 : Int) < (OO : Int) := by omega
      clear ALL EALL EHD EHH EL P1 P2 P3 P4 P5
      go_enter Try.func11, Try.ntmps11
      go_wp2_with fail
      rw [HVV.out]
      refine CF0.out.mono ?_
      rintro e w1 ⟨rfl, hw⟩
      replace hw := hw.symm
      subst hw
      go_wp2_with fail
      refine CF1.out.mono ?_
      rintro e w1 ⟨rfl, hw⟩
      replace hw := hw.symm
      subst hw
      go_wp2_with fail
      refine CF2.out.mono ?_
      rintro e w1 ⟨rfl, hw⟩
      replace hw := hw.symm
      subst hw
      go_wp2_with fail
      refine CF3.out.mono ?_
      rintro e w1 ⟨rfl, hw⟩
      replace hw := hw.symm
      subst hw
      go_wp2_with fail
      refine (CN.out _).mono ?_
      rintro e w1 ⟨rfl, m, hw⟩
      have kvn : Blk w1 w.heap.size zeroC 28 := by rw [hw]; exact KV.out.drewN m
      have hbn : Below w.heap.size w w1 := by rw [hw]; exact below_drewN HB.out m
      replace KV := hide kvn
      replace HB := hide hbn
      clear hw kvn hbn
      go_wp2_with fail
      refine (CH.out _).mono ?_
      rintro e w1 ⟨rfl, m, hw⟩
      have kvn : Blk w1 w.heap.size zeroC 28 := by rw [hw]; exact KV.out.drewN m
      have hbn : Below w.heap.size w w1 := by rw [hw]; exact below_drewN HB.out m
      replace KV := hide kvn
      replace HB := hide hbn
      clear hw kvn hbn
      go_wp2_with fail
      refine (CU.out _).mono ?_
      rintro e w1 ⟨rfl, m, hw⟩
      have kvn : Blk w1 w.heap.size zeroC 28 := by rw [hw]; exact KV.out.drewN m
      have hbn : Below w.heap.size w w1 := by rw [hw]; exact below_drewN HB.out m
      replace KV := hide kvn
      replace HB := hide hbn
      clear hw kvn hbn
      go_wp2_with fail
      refine (CO.out _).mono ?_
      rintro e w1 ⟨rfl, m, hw⟩
      have kvn : Blk w1 w.heap.size zeroC 28 := by rw [hw]; exact KV.out.drewN m
      have hbn : Below w.heap.size w w1 := by rw [hw]; exact below_drewN HB.out m
      replace KV := hide kvn
      replace HB := hide hbn
      clear hw kvn hbn
      have z0 := KV.out.cell 0
      have y0 := KV.out.frozen 0
      have z1 := KV.out.cell 1
      have y1 := KV.out.frozen 1
      have z2 := KV.out.cell 2
      have y2 := KV.out.frozen 2
      have z3 := KV.out.cell 3
      have y3 := KV.out.frozen 3
      have z4 := KV.out.cell 4
      have y4 := KV.out.frozen 4
      have z5 := KV.out.cell 5
      have y5 := KV.out.frozen 5
      have z6 := KV.out.cell 6
      have y6 := KV.out.frozen 6
      have z7 := KV.out.cell 7
      have y7 := KV.out.frozen 7
      have z8 := KV.out.cell 8
      have y8 := KV.out.frozen 8
      have z9 := KV.out.cell 9
      have y9 := KV.out.frozen 9
      have z10 := KV.out.cell 10
      have y10 := KV.out.frozen 10
      simp at z0 z1 z2 z3 z4 z5 z6 z7 z8 z9 z10
      have zlt := KV.out.lt
      go_wp2_with fail
      have hst := store11 KV.out (.int .i64 0) (.int .i64 0) (.int .i64 0) (.int .i64 0) (.int .i64 0) (.int .i64 0) (.int .i64 0) (.int .i64 0) (.bool false) (.slice none 0 0) (.slice none 0 0)
      have hbe := hst.2.below HB.out (Nat.le_refl _)
      clear z0 y0 z1 y1 z2 y2 z3 y3 z4 y4 z5 y5 z6 y6 z7 y7 z8 y8 z9 y9 z10 y10 zlt
      generalize (((((((((((w1.setCell ⟨w.heap.size, 0, none⟩ (.int .i64 0)).setCell ⟨w.heap.size, 1, none⟩ (.int .i64 0)).setCell ⟨w.heap.size, 2, none⟩ (.int .i64 0)).setCell ⟨w.heap.size, 3, none⟩ (.int .i64 0)).setCell ⟨w.heap.size, 4, none⟩ (.int .i64 0)).setCell ⟨w.heap.size, 5, none⟩ (.int .i64 0)).setCell ⟨w.heap.size, 6, none⟩ (.int .i64 0)).setCell ⟨w.heap.size, 7, none⟩ (.int .i64 0)).setCell ⟨w.heap.size, 8, none⟩ (.bool false)).setCell ⟨w.heap.size, 9, none⟩ (.slice none 0 0)).setCell ⟨w.heap.size, 10, none⟩ (.slice none 0 0)) = ZZ at hst hbe ⊢
      have q0 := hst.1.cell 0
      have q1 := hst.1.cell 1
      have q2 := hst.1.cell 2
      have q3 := hst.1.cell 3
      have q4 := hst.1.cell 4
      have q5 := hst.1.cell 5
      have q6 := hst.1.cell 6
      have q7 := hst.1.cell 7
      have q8 := hst.1.cell 8
      have q9 := hst.1.cell 9
      have q10 := hst.1.cell 10
      simp at q0 q1 q2 q3 q4 q5 q6 q7 q8 q9 q10
      exact bodyPost_ret (v := .tuple #[zeroM, .int .i64 90]) (by simp [results, Try.results11, go_sem, zeroM, q0, q1, q2, q3, q4, q5, q6, q7, q8, q9, q10]) rfl ⟨rfl, hbe⟩
    have v3' : ¬ (1 : Int) < (OO : Int) := by omega
    by_cases v4 : X52 = 0
    case neg =>
      have v4' : ((X52 : Int) == 0) = false := by simp; omega
      have v4b : ((X52 : Int) != 0) = true := by simp; omega
      have v4c : ¬ (X52 : Int) = 0 := by omega
      clear ALL EALL EHD EHH EL P1 P2 P3 P4 P5
      go_enter Try.func11, Try.ntmps11
      go_wp2_with fail
      rw [HVV.out]
      refine CF0.out.mono ?_
      rintro e w1 ⟨rfl, hw⟩
      replace hw := hw.symm
      subst hw
      go_wp2_with fail
      refine CF1.out.mono ?_
      rintro e w1 ⟨rfl, hw⟩
      replace hw := hw.symm
      subst hw
      go_wp2_with fail
      refine CF2.out.mono ?_
      rintro e w1 ⟨rfl, hw⟩
      replace hw := hw.symm
      subst hw
      go_wp2_with fail
      refine CF3.out.mono ?_
      rintro e w1 ⟨rfl, hw⟩
      replace hw := hw.symm
      subst hw
      go_wp2_with fail
      refine (CN.out _).mono ?_
      rintro e w1 ⟨rfl, m, hw⟩
      have kvn : Blk w1 w.heap.size zeroC 28 := by rw [hw]; exact KV.out.drewN m
      have hbn : Below w.heap.size w w1 := by rw [hw]; exact below_drewN HB.out m
      replace KV := hide kvn
      replace HB := hide hbn
      clear hw kvn hbn
      go_wp2_with fail
      refine (CH.out _).mono ?_
      rintro e w1 ⟨rfl, m, hw⟩
      have kvn : Blk w1 w.heap.size zeroC 28 := by rw [hw]; exact KV.out.drewN m
      have hbn : Below w.heap.size w w1 := by rw [hw]; exact below_drewN HB.out m
      replace KV := hide kvn
      replace HB := hide hbn
      clear hw kvn hbn
      go_wp2_with fail
      refine (CU.out _).mono ?_
      rintro e w1 ⟨rfl, m, hw⟩
      have kvn : Blk w1 w.heap.size zeroC 28 := by rw [hw]; exact KV.out.drewN m
      have hbn : Below w.heap.size w w1 := by rw [hw]; exact below_drewN HB.out m
      replace KV := hide kvn
      replace HB := hide hbn
      clear hw kvn hbn
      go_wp2_with fail
      refine (CO.out _).mono ?_
      rintro e w1 ⟨rfl, m, hw⟩
      have kvn : Blk w1 w.heap.size zeroC 28 := by rw [hw]; exact KV.out.drewN m
      have hbn : Below w.heap.size w w1 := by rw [hw]; exact below_drewN HB.out m
      replace KV := hide kvn
      replace HB := hide hbn
      clear hw kvn hbn
      have z0 := KV.out.cell 0
      have y0 := KV.out.frozen 0
      have z1 := KV.out.cell 1
      have y1 := KV.out.frozen 1
      have z2 := KV.out.cell 2
      have y2 := KV.out.frozen 2
      have z3 := KV.out.cell 3
      have y3 := KV.out.frozen 3
      have z4 := KV.out.cell 4
      have y4 := KV.out.frozen 4
      have z5 := KV.out.cell 5
      have y5 := KV.out.frozen 5
      have z6 := KV.out.cell 6
      have y6 := KV.out.frozen 6
      have z7 := KV.out.cell 7
      have y7 := KV.out.frozen 7
      have z8 := KV.out.cell 8
      have y8 := KV.out.frozen 8
      have z9 := KV.out.cell 9
      have y9 := KV.out.frozen 9
      have z10 := KV.out.cell 10
      have y10 := KV.out.frozen 10
      simp at z0 z1 z2 z3 z4 z5 z6 z7 z8 z9 z10
      have zlt := KV.out.lt
      go_wp2_with fail
      clear z0 y0 z1 y1 z2 y2 z3 y3 z4 y4 z5 y5 z6 y6 z7 y7 z8 y8 z9 y9 z10 y10 zlt
      refine (C52.out _).mono ?_
      rintro e w1 ⟨rfl, m, hw⟩
      have kvn : Blk w1 w.heap.size zeroC 28 := by rw [hw]; exact KV.out.drewN m
      have hbn : Below w.heap.size w w1 := by rw [hw]; exact below_drewN HB.out m
      replace KV := hide kvn
      replace HB := hide hbn
      clear hw kvn hbn
      have z0 := KV.out.cell 0
      have y0 := KV.out.frozen 0
      have z1 := KV.out.cell 1
      have y1 := KV.out.frozen 1
      have z2 := KV.out.cell 2
      have y2 := KV.out.frozen 2
      have z3 := KV.out.cell 3
      have y3 := KV.out.frozen 3
      have z4 := KV.out.cell 4
      have y4 := KV.out.frozen 4
      have z5 := KV.out.cell 5
      have y5 := KV.out.frozen 5
      have z6 := KV.out.cell 6
      have y6 := KV.out.frozen 6
      have z7 := KV.out.cell 7
      have y7 := KV.out.frozen 7
      have z8 := KV.out.cell 8
      have y8 := KV.out.frozen 8
      have z9 := KV.out.cell 9
      have y9 := KV.out.frozen 9
      have z10 := KV.out.cell 10
      have y10 := KV.out.frozen 10
      simp at z0 z1 z2 z3 z4 z5 z6 z7 z8 z9 z10
      have zlt := KV.out.lt
      go_wp2_with fail
      have hst := store11 KV.out (.int .i64 0) (.int .i64 0) (.int .i64 0) (.int .i64 0) (.int .i64 0) (.int .i64 0) (.int .i64 0) (.int .i64 0) (.bool false) (.slice none 0 0) (.slice none 0 0)
      have hbe := hst.2.below HB.out (Nat.le_refl _)
      clear z0 y0 z1 y1 z2 y2 z3 y3 z4 y4 z5 y5 z6 y6 z7 y7 z8 y8 z9 y9 z10 y10 zlt
      generalize (((((((((((w1.setCell ⟨w.heap.size, 0, none⟩ (.int .i64 0)).setCell ⟨w.heap.size, 1, none⟩ (.int .i64 0)).setCell ⟨w.heap.size, 2, none⟩ (.int .i64 0)).setCell ⟨w.heap.size, 3, none⟩ (.int .i64 0)).setCell ⟨w.heap.size, 4, none⟩ (.int .i64 0)).setCell ⟨w.heap.size, 5, none⟩ (.int .i64 0)).setCell ⟨w.heap.size, 6, none⟩ (.int .i64 0)).setCell ⟨w.heap.size, 7, none⟩ (.int .i64 0)).setCell ⟨w.heap.size, 8, none⟩ (.bool false)).setCell ⟨w.heap.size, 9, none⟩ (.slice none 0 0)).setCell ⟨w.heap.size, 10, none⟩ (.slice none 0 0)) = ZZ at hst hbe ⊢
      have q0 := hst.1.cell 0
      have q1 := hst.1.cell 1
      have q2 := hst.1.cell 2
      have q3 := hst.1.cell 3
      have q4 := hst.1.cell 4
      have q5 := hst.1.cell 5
      have q6 := hst.1.cell 6
      have q7 := hst.1.cell 7
      have q8 := hst.1.cell 8
      have q9 := hst.1.cell 9
      have q10 := hst.1.cell 10
      simp at q0 q1 q2 q3 q4 q5 q6 q7 q8 q9 q10
      exact bodyPost_ret (v := .tuple #[zeroM, .int .i64 90]) (by simp [results, Try.results11, go_sem, zeroM, q0, q1, q2, q3, q4, q5, q6, q7, q8, q9, q10]) rfl ⟨rfl, hbe⟩
    subst v4
    have thd : hdB hd = true := by rw [EHD.out, qC, qD, wiB_t1 (show (16 : Int) ≤ (UU : Int) by omega) (show (UU : Int) ≤ 16384 by omega), wiB_t1 (show (0 : Int) ≤ (OO : Int) by omega) (show (OO : Int) ≤ 1 by omega)]; rfl
    rw [thd, Bool.true_and] at EALL
    clear v1 v2 v3 thd EHD
    cases qE : sayB hh 0 verS
    · have jE : ((hh.extract 0 4).toList == [0, 1, 0, 0]) = false := by have h := P5.out; rw [qE] at h; exact h.symm
      have iE : ((hh.extract 0 4).toList != [0, 1, 0, 0]) = true := by unfold bne; rw [jE]; rfl
      clear ALL EALL EHH EL P1 P2 P3 P4 P5
      go_enter Try.func11, Try.ntmps11
      go_wp2_with fail
      rw [HVV.out]
      refine CF0.out.mono ?_
      rintro e w1 ⟨rfl, hw⟩
      replace hw := hw.symm
      subst hw
      go_wp2_with fail
      refine CF1.out.mono ?_
      rintro e w1 ⟨rfl, hw⟩
      replace hw := hw.symm
      subst hw
      go_wp2_with fail
      refine CF2.out.mono ?_
      rintro e w1 ⟨rfl, hw⟩
      replace hw := hw.symm
      subst hw
      go_wp2_with fail
      refine CF3.out.mono ?_
      rintro e w1 ⟨rfl, hw⟩
      replace hw := hw.symm
      subst hw
      go_wp2_with fail
      refine (CN.out _).mono ?_
      rintro e w1 ⟨rfl, m, hw⟩
      have kvn : Blk w1 w.heap.size zeroC 28 := by rw [hw]; exact KV.out.drewN m
      have hbn : Below w.heap.size w w1 := by rw [hw]; exact below_drewN HB.out m
      replace KV := hide kvn
      replace HB := hide hbn
      clear hw kvn hbn
      go_wp2_with fail
      refine (CH.out _).mono ?_
      rintro e w1 ⟨rfl, m, hw⟩
      have kvn : Blk w1 w.heap.size zeroC 28 := by rw [hw]; exact KV.out.drewN m
      have hbn : Below w.heap.size w w1 := by rw [hw]; exact below_drewN HB.out m
      replace KV := hide kvn
      replace HB := hide hbn
      clear hw kvn hbn
      go_wp2_with fail
      refine (CU.out _).mono ?_
      rintro e w1 ⟨rfl, m, hw⟩
      have kvn : Blk w1 w.heap.size zeroC 28 := by rw [hw]; exact KV.out.drewN m
      have hbn : Below w.heap.size w w1 := by rw [hw]; exact below_drewN HB.out m
      replace KV := hide kvn
      replace HB := hide hbn
      clear hw kvn hbn
      go_wp2_with fail
      refine (CO.out _).mono ?_
      rintro e w1 ⟨rfl, m, hw⟩
      have kvn : Blk w1 w.heap.size zeroC 28 := by rw [hw]; exact KV.out.drewN m
      have hbn : Below w.heap.size w w1 := by rw [hw]; exact below_drewN HB.out m
      replace KV := hide kvn
      replace HB := hide hbn
      clear hw kvn hbn
      have z0 := KV.out.cell 0
      have y0 := KV.out.frozen 0
      have z1 := KV.out.cell 1
      have y1 := KV.out.frozen 1
      have z2 := KV.out.cell 2
      have y2 := KV.out.frozen 2
      have z3 := KV.out.cell 3
      have y3 := KV.out.frozen 3
      have z4 := KV.out.cell 4
      have y4 := KV.out.frozen 4
      have z5 := KV.out.cell 5
      have y5 := KV.out.frozen 5
      have z6 := KV.out.cell 6
      have y6 := KV.out.frozen 6
      have z7 := KV.out.cell 7
      have y7 := KV.out.frozen 7
      have z8 := KV.out.cell 8
      have y8 := KV.out.frozen 8
      have z9 := KV.out.cell 9
      have y9 := KV.out.frozen 9
      have z10 := KV.out.cell 10
      have y10 := KV.out.frozen 10
      simp at z0 z1 z2 z3 z4 z5 z6 z7 z8 z9 z10
      have zlt := KV.out.lt
      go_wp2_with fail
      clear z0 y0 z1 y1 z2 y2 z3 y3 z4 y4 z5 y5 z6 y6 z7 y7 z8 y8 z9 y9 z10 y10 zlt
      refine (C52.out _).mono ?_
      rintro e w1 ⟨rfl, m, hw⟩
      have kvn : Blk w1 w.heap.size zeroC 28 := by rw [hw]; exact KV.out.drewN m
      have hbn : Below w.heap.size w w1 := by rw [hw]; exact below_drewN HB.out m
      replace KV := hide kvn
      replace HB := hide hbn
      clear hw kvn hbn
      have z0 := KV.out.cell 0
      have y0 := KV.out.frozen 0
      have z1 := KV.out.cell 1
      have y1 := KV.out.frozen 1
      have z2 := KV.out.cell 2
      have y2 := KV.out.frozen 2
      have z3 := KV.out.cell 3
      have y3 := KV.out.frozen 3
      have z4 := KV.out.cell 4
      have y4 := KV.out.frozen 4
      have z5 := KV.out.cell 5
      have y5 := KV.out.frozen 5
      have z6 := KV.out.cell 6
      have y6 := KV.out.frozen 6
      have z7 := KV.out.cell 7
      have y7 := KV.out.frozen 7
      have z8 := KV.out.cell 8
      have y8 := KV.out.frozen 8
      have z9 := KV.out.cell 9
      have y9 := KV.out.frozen 9
      have z10 := KV.out.cell 10
      have y10 := KV.out.frozen 10
      simp at z0 z1 z2 z3 z4 z5 z6 z7 z8 z9 z10
      have zlt := KV.out.lt
      go_wp2_with fail
      have hst := store11 KV.out (.int .i64 0) (.int .i64 0) (.int .i64 0) (.int .i64 0) (.int .i64 0) (.int .i64 0) (.int .i64 0) (.int .i64 0) (.bool false) (.slice none 0 0) (.slice none 0 0)
      have hbe := hst.2.below HB.out (Nat.le_refl _)
      clear z0 y0 z1 y1 z2 y2 z3 y3 z4 y4 z5 y5 z6 y6 z7 y7 z8 y8 z9 y9 z10 y10 zlt
      generalize (((((((((((w1.setCell ⟨w.heap.size, 0, none⟩ (.int .i64 0)).setCell ⟨w.heap.size, 1, none⟩ (.int .i64 0)).setCell ⟨w.heap.size, 2, none⟩ (.int .i64 0)).setCell ⟨w.heap.size, 3, none⟩ (.int .i64 0)).setCell ⟨w.heap.size, 4, none⟩ (.int .i64 0)).setCell ⟨w.heap.size, 5, none⟩ (.int .i64 0)).setCell ⟨w.heap.size, 6, none⟩ (.int .i64 0)).setCell ⟨w.heap.size, 7, none⟩ (.int .i64 0)).setCell ⟨w.heap.size, 8, none⟩ (.bool false)).setCell ⟨w.heap.size, 9, none⟩ (.slice none 0 0)).setCell ⟨w.heap.size, 10, none⟩ (.slice none 0 0)) = ZZ at hst hbe ⊢
      have q0 := hst.1.cell 0
      have q1 := hst.1.cell 1
      have q2 := hst.1.cell 2
      have q3 := hst.1.cell 3
      have q4 := hst.1.cell 4
      have q5 := hst.1.cell 5
      have q6 := hst.1.cell 6
      have q7 := hst.1.cell 7
      have q8 := hst.1.cell 8
      have q9 := hst.1.cell 9
      have q10 := hst.1.cell 10
      simp at q0 q1 q2 q3 q4 q5 q6 q7 q8 q9 q10
      exact bodyPost_ret (v := .tuple #[zeroM, .int .i64 90]) (by simp [results, Try.results11, go_sem, zeroM, q0, q1, q2, q3, q4, q5, q6, q7, q8, q9, q10]) rfl ⟨rfl, hbe⟩
    have jE : ((hh.extract 0 4).toList == [0, 1, 0, 0]) = true := by have h := P5.out; rw [qE] at h; exact h.symm
    have iE : ((hh.extract 0 4).toList != [0, 1, 0, 0]) = false := by unfold bne; rw [jE]; rfl
    by_cases y4 : X32 = 0
    case neg =>
      have y4' : ((X32 : Int) == 0) = false := by simp; omega
      have y4b : ((X32 : Int) != 0) = true := by simp; omega
      have y4c : ¬ (X32 : Int) = 0 := by omega
      clear ALL EALL EHH EL P1 P2 P3 P4 P5
      go_enter Try.func11, Try.ntmps11
      go_wp2_with fail
      rw [HVV.out]
      refine CF0.out.mono ?_
      rintro e w1 ⟨rfl, hw⟩
      replace hw := hw.symm
      subst hw
      go_wp2_with fail
      refine CF1.out.mono ?_
      rintro e w1 ⟨rfl, hw⟩
      replace hw := hw.symm
      subst hw
      go_wp2_with fail
      refine CF2.out.mono ?_
      rintro e w1 ⟨rfl, hw⟩
      replace hw := hw.symm
      subst hw
      go_wp2_with fail
      refine CF3.out.mono ?_
      rintro e w1 ⟨rfl, hw⟩
      replace hw := hw.symm
      subst hw
      go_wp2_with fail
      refine (CN.out _).mono ?_
      rintro e w1 ⟨rfl, m, hw⟩
      have kvn : Blk w1 w.heap.size zeroC 28 := by rw [hw]; exact KV.out.drewN m
      have hbn : Below w.heap.size w w1 := by rw [hw]; exact below_drewN HB.out m
      replace KV := hide kvn
      replace HB := hide hbn
      clear hw kvn hbn
      go_wp2_with fail
      refine (CH.out _).mono ?_
      rintro e w1 ⟨rfl, m, hw⟩
      have kvn : Blk w1 w.heap.size zeroC 28 := by rw [hw]; exact KV.out.drewN m
      have hbn : Below w.heap.size w w1 := by rw [hw]; exact below_drewN HB.out m
      replace KV := hide kvn
      replace HB := hide hbn
      clear hw kvn hbn
      go_wp2_with fail
      refine (CU.out _).mono ?_
      rintro e w1 ⟨rfl, m, hw⟩
      have kvn : Blk w1 w.heap.size zeroC 28 := by rw [hw]; exact KV.out.drewN m
      have hbn : Below w.heap.size w w1 := by rw [hw]; exact below_drewN HB.out m
      replace KV := hide kvn
      replace HB := hide hbn
      clear hw kvn hbn
      go_wp2_with fail
      refine (CO.out _).mono ?_
      rintro e w1 ⟨rfl, m, hw⟩
      have kvn : Blk w1 w.heap.size zeroC 28 := by rw [hw]; exact KV.out.drewN m
      have hbn : Below w.heap.size w w1 := by rw [hw]; exact below_drewN HB.out m
      replace KV := hide kvn
      replace HB := hide hbn
      clear hw kvn hbn
      have z0 := KV.out.cell 0
      have y0 := KV.out.frozen 0
      have z1 := KV.out.cell 1
      have y1 := KV.out.frozen 1
      have z2 := KV.out.cell 2
      have y2 := KV.out.frozen 2
      have z3 := KV.out.cell 3
      have y3 := KV.out.frozen 3
      have z4 := KV.out.cell 4
      have y4 := KV.out.frozen 4
      have z5 := KV.out.cell 5
      have y5 := KV.out.frozen 5
      have z6 := KV.out.cell 6
      have y6 := KV.out.frozen 6
      have z7 := KV.out.cell 7
      have y7 := KV.out.frozen 7
      have z8 := KV.out.cell 8
      have y8 := KV.out.frozen 8
      have z9 := KV.out.cell 9
      have y9 := KV.out.frozen 9
      have z10 := KV.out.cell 10
      have y10 := KV.out.frozen 10
      simp at z0 z1 z2 z3 z4 z5 z6 z7 z8 z9 z10
      have zlt := KV.out.lt
      go_wp2_with fail
      clear z0 y0 z1 y1 z2 y2 z3 y3 z4 y4 z5 y5 z6 y6 z7 y7 z8 y8 z9 y9 z10 y10 zlt
      refine (C52.out _).mono ?_
      rintro e w1 ⟨rfl, m, hw⟩
      have kvn : Blk w1 w.heap.size zeroC 28 := by rw [hw]; exact KV.out.drewN m
      have hbn : Below w.heap.size w w1 := by rw [hw]; exact below_drewN HB.out m
      replace KV := hide kvn
      replace HB := hide hbn
      clear hw kvn hbn
      have z0 := KV.out.cell 0
      have y0 := KV.out.frozen 0
      have z1 := KV.out.cell 1
      have y1 := KV.out.frozen 1
      have z2 := KV.out.cell 2
      have y2 := KV.out.frozen 2
      have z3 := KV.out.cell 3
      have y3 := KV.out.frozen 3
      have z4 := KV.out.cell 4
      have y4 := KV.out.frozen 4
      have z5 := KV.out.cell 5
      have y5 := KV.out.frozen 5
      have z6 := KV.out.cell 6
      have y6 := KV.out.frozen 6
      have z7 := KV.out.cell 7
      have y7 := KV.out.frozen 7
      have z8 := KV.out.cell 8
      have y8 := KV.out.frozen 8
      have z9 := KV.out.cell 9
      have y9 := KV.out.frozen 9
      have z10 := KV.out.cell 10
      have y10 := KV.out.frozen 10
      simp at z0 z1 z2 z3 z4 z5 z6 z7 z8 z9 z10
      have zlt := KV.out.lt
      go_wp2_with fail
      clear z0 y0 z1 y1 z2 y2 z3 y3 z4 y4 z5 y5 z6 y6 z7 y7 z8 y8 z9 y9 z10 y10 zlt
      refine (C32.out _).mono ?_
      rintro e w1 ⟨rfl, m, hw⟩
      have kvn : Blk w1 w.heap.size zeroC 28 := by rw [hw]; exact KV.out.drewN m
      have hbn : Below w.heap.size w w1 := by rw [hw]; exact below_drewN HB.out m
      replace KV := hide kvn
      replace HB := hide hbn
      clear hw kvn hbn
      have z0 := KV.out.cell 0
      have y0 := KV.out.frozen 0
      have z1 := KV.out.cell 1
      have y1 := KV.out.frozen 1
      have z2 := KV.out.cell 2
      have y2 := KV.out.frozen 2
      have z3 := KV.out.cell 3
      have y3 := KV.out.frozen 3
      have z4 := KV.out.cell 4
      have y4 := KV.out.frozen 4
      have z5 := KV.out.cell 5
      have y5 := KV.out.frozen 5
      have z6 := KV.out.cell 6
      have y6 := KV.out.frozen 6
      have z7 := KV.out.cell 7
      have y7 := KV.out.frozen 7
      have z8 := KV.out.cell 8
      have y8 := KV.out.frozen 8
      have z9 := KV.out.cell 9
      have y9 := KV.out.frozen 9
      have z10 := KV.out.cell 10
      have y10 := KV.out.frozen 10
      simp at z0 z1 z2 z3 z4 z5 z6 z7 z8 z9 z10
      have zlt := KV.out.lt
      go_wp2_with fail
      have hst := store11 KV.out (.int .i64 0) (.int .i64 0) (.int .i64 0) (.int .i64 0) (.int .i64 0) (.int .i64 0) (.int .i64 0) (.int .i64 0) (.bool false) (.slice none 0 0) (.slice none 0 0)
      have hbe := hst.2.below HB.out (Nat.le_refl _)
      clear z0 y0 z1 y1 z2 y2 z3 y3 z4 y4 z5 y5 z6 y6 z7 y7 z8 y8 z9 y9 z10 y10 zlt
      generalize (((((((((((w1.setCell ⟨w.heap.size, 0, none⟩ (.int .i64 0)).setCell ⟨w.heap.size, 1, none⟩ (.int .i64 0)).setCell ⟨w.heap.size, 2, none⟩ (.int .i64 0)).setCell ⟨w.heap.size, 3, none⟩ (.int .i64 0)).setCell ⟨w.heap.size, 4, none⟩ (.int .i64 0)).setCell ⟨w.heap.size, 5, none⟩ (.int .i64 0)).setCell ⟨w.heap.size, 6, none⟩ (.int .i64 0)).setCell ⟨w.heap.size, 7, none⟩ (.int .i64 0)).setCell ⟨w.heap.size, 8, none⟩ (.bool false)).setCell ⟨w.heap.size, 9, none⟩ (.slice none 0 0)).setCell ⟨w.heap.size, 10, none⟩ (.slice none 0 0)) = ZZ at hst hbe ⊢
      have q0 := hst.1.cell 0
      have q1 := hst.1.cell 1
      have q2 := hst.1.cell 2
      have q3 := hst.1.cell 3
      have q4 := hst.1.cell 4
      have q5 := hst.1.cell 5
      have q6 := hst.1.cell 6
      have q7 := hst.1.cell 7
      have q8 := hst.1.cell 8
      have q9 := hst.1.cell 9
      have q10 := hst.1.cell 10
      simp at q0 q1 q2 q3 q4 q5 q6 q7 q8 q9 q10
      exact bodyPost_ret (v := .tuple #[zeroM, .int .i64 90]) (by simp [results, Try.results11, go_sem, zeroM, q0, q1, q2, q3, q4, q5, q6, q7, q8, q9, q10]) rfl ⟨rfl, hbe⟩
    subst y4
    by_cases h1 : H < 1
    · have h1' : (H : Int) < 1 := by omega
      clear ALL EALL EHH EL P1 P2 P3 P4 P5
      go_enter Try.func11, Try.ntmps11
      go_wp2_with fail
      rw [HVV.out]
      refine CF0.out.mono ?_
      rintro e w1 ⟨rfl, hw⟩
      replace hw := hw.symm
      subst hw
      go_wp2_with fail
      refine CF1.out.mono ?_
      rintro e w1 ⟨rfl, hw⟩
      replace hw := hw.symm
      subst hw
      go_wp2_with fail
      refine CF2.out.mono ?_
      rintro e w1 ⟨rfl, hw⟩
      replace hw := hw.symm
      subst hw
      go_wp2_with fail
      refine CF3.out.mono ?_
      rintro e w1 ⟨rfl, hw⟩
      replace hw := hw.symm
      subst hw
      go_wp2_with fail
      refine (CN.out _).mono ?_
      rintro e w1 ⟨rfl, m, hw⟩
      have kvn : Blk w1 w.heap.size zeroC 28 := by rw [hw]; exact KV.out.drewN m
      have hbn : Below w.heap.size w w1 := by rw [hw]; exact below_drewN HB.out m
      replace KV := hide kvn
      replace HB := hide hbn
      clear hw kvn hbn
      go_wp2_with fail
      refine (CH.out _).mono ?_
      rintro e w1 ⟨rfl, m, hw⟩
      have kvn : Blk w1 w.heap.size zeroC 28 := by rw [hw]; exact KV.out.drewN m
      have hbn : Below w.heap.size w w1 := by rw [hw]; exact below_drewN HB.out m
      replace KV := hide kvn
      replace HB := hide hbn
      clear hw kvn hbn
      go_wp2_with fail
      refine (CU.out _).mono ?_
      rintro e w1 ⟨rfl, m, hw⟩
      have kvn : Blk w1 w.heap.size zeroC 28 := by rw [hw]; exact KV.out.drewN m
      have hbn : Below w.heap.size w w1 := by rw [hw]; exact below_drewN HB.out m
      replace KV := hide kvn
      replace HB := hide hbn
      clear hw kvn hbn
      go_wp2_with fail
      refine (CO.out _).mono ?_
      rintro e w1 ⟨rfl, m, hw⟩
      have kvn : Blk w1 w.heap.size zeroC 28 := by rw [hw]; exact KV.out.drewN m
      have hbn : Below w.heap.size w w1 := by rw [hw]; exact below_drewN HB.out m
      replace KV := hide kvn
      replace HB := hide hbn
      clear hw kvn hbn
      have z0 := KV.out.cell 0
      have y0 := KV.out.frozen 0
      have z1 := KV.out.cell 1
      have y1 := KV.out.frozen 1
      have z2 := KV.out.cell 2
      have y2 := KV.out.frozen 2
      have z3 := KV.out.cell 3
      have y3 := KV.out.frozen 3
      have z4 := KV.out.cell 4
      have y4 := KV.out.frozen 4
      have z5 := KV.out.cell 5
      have y5 := KV.out.frozen 5
      have z6 := KV.out.cell 6
      have y6 := KV.out.frozen 6
      have z7 := KV.out.cell 7
      have y7 := KV.out.frozen 7
      have z8 := KV.out.cell 8
      have y8 := KV.out.frozen 8
      have z9 := KV.out.cell 9
      have y9 := KV.out.frozen 9
      have z10 := KV.out.cell 10
      have y10 := KV.out.frozen 10
      simp at z0 z1 z2 z3 z4 z5 z6 z7 z8 z9 z10
      have zlt := KV.out.lt
      go_wp2_with fail
      clear z0 y0 z1 y1 z2 y2 z3 y3 z4 y4 z5 y5 z6 y6 z7 y7 z8 y8 z9 y9 z10 y10 zlt
      refine (C52.out _).mono ?_
      rintro e w1 ⟨rfl, m, hw⟩
      have kvn : Blk w1 w.heap.size zeroC 28 := by rw [hw]; exact KV.out.drewN m
      have hbn : Below w.heap.size w w1 := by rw [hw]; exact below_drewN HB.out m
      replace KV := hide kvn
      replace HB := hide hbn
      clear hw kvn hbn
      have z0 := KV.out.cell 0
      have y0 := KV.out.frozen 0
      have z1 := KV.out.cell 1
      have y1 := KV.out.frozen 1
      have z2 := KV.out.cell 2
      have y2 := KV.out.frozen 2
      have z3 := KV.out.cell 3
      have y3 := KV.out.frozen 3
      have z4 := KV.out.cell 4
      have y4 := KV.out.frozen 4
      have z5 := KV.out.cell 5
      have y5 := KV.out.frozen 5
      have z6 := KV.out.cell 6
      have y6 := KV.out.frozen 6
      have z7 := KV.out.cell 7
      have y7 := KV.out.frozen 7
      have z8 := KV.out.cell 8
      have y8 := KV.out.frozen 8
      have z9 := KV.out.cell 9
      have y9 := KV.out.frozen 9
      have z10 := KV.out.cell 10
      have y10 := KV.out.frozen 10
      simp at z0 z1 z2 z3 z4 z5 z6 z7 z8 z9 z10
      have zlt := KV.out.lt
      go_wp2_with fail
      clear z0 y0 z1 y1 z2 y2 z3 y3 z4 y4 z5 y5 z6 y6 z7 y7 z8 y8 z9 y9 z10 y10 zlt
      refine (C32.out _).mono ?_
      rintro e w1 ⟨rfl, m, hw⟩
      have kvn : Blk w1 w.heap.size zeroC 28 := by rw [hw]; exact KV.out.drewN m
      have hbn : Below w.heap.size w w1 := by rw [hw]; exact below_drewN HB.out m
      replace KV := hide kvn
      replace HB := hide hbn
      clear hw kvn hbn
      have z0 := KV.out.cell 0
      have y0 := KV.out.frozen 0
      have z1 := KV.out.cell 1
      have y1 := KV.out.frozen 1
      have z2 := KV.out.cell 2
      have y2 := KV.out.frozen 2
      have z3 := KV.out.cell 3
      have y3 := KV.out.frozen 3
      have z4 := KV.out.cell 4
      have y4 := KV.out.frozen 4
      have z5 := KV.out.cell 5
      have y5 := KV.out.frozen 5
      have z6 := KV.out.cell 6
      have y6 := KV.out.frozen 6
      have z7 := KV.out.cell 7
      have y7 := KV.out.frozen 7
      have z8 := KV.out.cell 8
      have y8 := KV.out.frozen 8
      have z9 := KV.out.cell 9
      have y9 := KV.out.frozen 9
      have z10 := KV.out.cell 10
      have y10 := KV.out.frozen 10
      simp at z0 z1 z2 z3 z4 z5 z6 z7 z8 z9 z10
      have zlt := KV.out.lt
      go_wp2_with fail
      have hst := store11 KV.out (.int .i64 0) (.int .i64 0) (.int .i64 0) (.int .i64 0) (.int .i64 0) (.int .i64 0) (.int .i64 0) (.int .i64 0) (.bool false) (.slice none 0 0) (.slice none 0 0)
      have hbe := hst.2.below HB.out (Nat.le_refl _)
      clear z0 y0 z1 y1 z2 y2 z3 y3 z4 y4 z5 y5 z6 y6 z7 y7 z8 y8 z9 y9 z10 y10 zlt
      generalize (((((((((((w1.setCell ⟨w.heap.size, 0, none⟩ (.int .i64 0)).setCell ⟨w.heap.size, 1, none⟩ (.int .i64 0)).setCell ⟨w.heap.size, 2, none⟩ (.int .i64 0)).setCell ⟨w.heap.size, 3, none⟩ (.int .i64 0)).setCell ⟨w.heap.size, 4, none⟩ (.int .i64 0)).setCell ⟨w.heap.size, 5, none⟩ (.int .i64 0)).setCell ⟨w.heap.size, 6, none⟩ (.int .i64 0)).setCell ⟨w.heap.size, 7, none⟩ (.int .i64 0)).setCell ⟨w.heap.size, 8, none⟩ (.bool false)).setCell ⟨w.heap.size, 9, none⟩ (.slice none 0 0)).setCell ⟨w.heap.size, 10, none⟩ (.slice none 0 0)) = ZZ at hst hbe ⊢
      have q0 := hst.1.cell 0
      have q1 := hst.1.cell 1
      have q2 := hst.1.cell 2
      have q3 := hst.1.cell 3
      have q4 := hst.1.cell 4
      have q5 := hst.1.cell 5
      have q6 := hst.1.cell 6
      have q7 := hst.1.cell 7
      have q8 := hst.1.cell 8
      have q9 := hst.1.cell 9
      have q10 := hst.1.cell 10
      simp at q0 q1 q2 q3 q4 q5 q6 q7 q8 q9 q10
      exact bodyPost_ret (v := .tuple #[zeroM, .int .i64 90]) (by simp [results, Try.results11, go_sem, zeroM, q0, q1, q2, q3, q4, q5, q6, q7, q8, q9, q10]) rfl ⟨rfl, hbe⟩
    have h1' : ¬ (H : Int) < 1 := by omega
    by_cases h2 : N < H
    · have h2' : (N : Int) < (H : Int) := by omega
      clear ALL EALL EHH EL P1 P2 P3 P4 P5
      go_enter Try.func11, Try.ntmps11
      go_wp2_with fail
      rw [HVV.out]
      refine CF0.out.mono ?_
      rintro e w1 ⟨rfl, hw⟩
      replace hw := hw.symm
      subst hw
      go_wp2_with fail
      refine CF1.out.mono ?_
      rintro e w1 ⟨rfl, hw⟩
      replace hw := hw.symm
      subst hw
      go_wp2_with fail
      refine CF2.out.mono ?_
      rintro e w1 ⟨rfl, hw⟩
      replace hw := hw.symm
      subst hw
      go_wp2_with fail
      refine CF3.out.mono ?_
      rintro e w1 ⟨rfl, hw⟩
      replace hw := hw.symm
      subst hw
      go_wp2_with fail
      refine (CN.out _).mono ?_
      rintro e w1 ⟨rfl, m, hw⟩
      have kvn : Blk w1 w.heap.size zeroC 28 := by rw [hw]; exact KV.out.drewN m
      have hbn : Below w.heap.size w w1 := by rw [hw]; exact below_drewN HB.out m
      replace KV := hide kvn
      replace HB := hide hbn
      clear hw kvn hbn
      go_wp2_with fail
      refine (CH.out _).mono ?_
      rintro e w1 ⟨rfl, m, hw⟩
      have kvn : Blk w1 w.heap.size zeroC 28 := by rw [hw]; exact KV.out.drewN m
      have hbn : Below w.heap.size w w1 := by rw [hw]; exact below_drewN HB.out m
      replace KV := hide kvn
      replace HB := hide hbn
      clear hw kvn hbn
      go_wp2_with fail
      refine (CU.out _).mono ?_
      rintro e w1 ⟨rfl, m, hw⟩
      have kvn : Blk w1 w.heap.size zeroC 28 := by rw [hw]; exact KV.out.drewN m
      have hbn : Below w.heap.size w w1 := by rw [hw]; exact below_drewN HB.out m
      replace KV := hide kvn
      replace HB := hide hbn
      clear hw kvn hbn
      go_wp2_with fail
      refine (CO.out _).mono ?_
      rintro e w1 ⟨rfl, m, hw⟩
      have kvn : Blk w1 w.heap.size zeroC 28 := by rw [hw]; exact KV.out.drewN m
      have hbn : Below w.heap.size w w1 := by rw [hw]; exact below_drewN HB.out m
      replace KV := hide kvn
      replace HB := hide hbn
      clear hw kvn hbn
      have z0 := KV.out.cell 0
      have y0 := KV.out.frozen 0
      have z1 := KV.out.cell 1
      have y1 := KV.out.frozen 1
      have z2 := KV.out.cell 2
      have y2 := KV.out.frozen 2
      have z3 := KV.out.cell 3
      have y3 := KV.out.frozen 3
      have z4 := KV.out.cell 4
      have y4 := KV.out.frozen 4
      have z5 := KV.out.cell 5
      have y5 := KV.out.frozen 5
      have z6 := KV.out.cell 6
      have y6 := KV.out.frozen 6
      have z7 := KV.out.cell 7
      have y7 := KV.out.frozen 7
      have z8 := KV.out.cell 8
      have y8 := KV.out.frozen 8
      have z9 := KV.out.cell 9
      have y9 := KV.out.frozen 9
      have z10 := KV.out.cell 10
      have y10 := KV.out.frozen 10
      simp at z0 z1 z2 z3 z4 z5 z6 z7 z8 z9 z10
      have zlt := KV.out.lt
      go_wp2_with fail
      clear z0 y0 z1 y1 z2 y2 z3 y3 z4 y4 z5 y5 z6 y6 z7 y7 z8 y8 z9 y9 z10 y10 zlt
      refine (C52.out _).mono ?_
      rintro e w1 ⟨rfl, m, hw⟩
      have kvn : Blk w1 w.heap.size zeroC 28 := by rw [hw]; exact KV.out.drewN m
      have hbn : Below w.heap.size w w1 := by rw [hw]; exact below_drewN HB.out m
      replace KV := hide kvn
      replace HB := hide hbn
      clear hw kvn hbn
      have z0 := KV.out.cell 0
      have y0 := KV.out.frozen 0
      have z1 := KV.out.cell 1
      have y1 := KV.out.frozen 1
      have z2 := KV.out.cell 2
      have y2 := KV.out.frozen 2
      have z3 := KV.out.cell 3
      have y3 := KV.out.frozen 3
      have z4 := KV.out.cell 4
      have y4 := KV.out.frozen 4
      have z5 := KV.out.cell 5
      have y5 := KV.out.frozen 5
      have z6 := KV.out.cell 6
      have y6 := KV.out.frozen 6
      have z7 := KV.out.cell 7
      have y7 := KV.out.frozen 7
      have z8 := KV.out.cell 8
      have y8 := KV.out.frozen 8
      have z9 := KV.out.cell 9
      have y9 := KV.out.frozen 9
      have z10 := KV.out.cell 10
      have y10 := KV.out.frozen 10
      simp at z0 z1 z2 z3 z4 z5 z6 z7 z8 z9 z10
      have zlt := KV.out.lt
      go_wp2_with fail
      clear z0 y0 z1 y1 z2 y2 z3 y3 z4 y4 z5 y5 z6 y6 z7 y7 z8 y8 z9 y9 z10 y10 zlt
      refine (C32.out _).mono ?_
      rintro e w1 ⟨rfl, m, hw⟩
      have kvn : Blk w1 w.heap.size zeroC 28 := by rw [hw]; exact KV.out.drewN m
      have hbn : Below w.heap.size w w1 := by rw [hw]; exact below_drewN HB.out m
      replace KV := hide kvn
      replace HB := hide hbn
      clear hw kvn hbn
      have z0 := KV.out.cell 0
      have y0 := KV.out.frozen 0
      have z1 := KV.out.cell 1
      have y1 := KV.out.frozen 1
      have z2 := KV.out.cell 2
      have y2 := KV.out.frozen 2
      have z3 := KV.out.cell 3
      have y3 := KV.out.frozen 3
      have z4 := KV.out.cell 4
      have y4 := KV.out.frozen 4
      have z5 := KV.out.cell 5
      have y5 := KV.out.frozen 5
      have z6 := KV.out.cell 6
      have y6 := KV.out.frozen 6
      have z7 := KV.out.cell 7
      have y7 := KV.out.frozen 7
      have z8 := KV.out.cell 8
      have y8 := KV.out.frozen 8
      have z9 := KV.out.cell 9
      have y9 := KV.out.frozen 9
      have z10 := KV.out.cell 10
      have y10 := KV.out.frozen 10
      simp at z0 z1 z2 z3 z4 z5 z6 z7 z8 z9 z10
      have zlt := KV.out.lt
      go_wp2_with fail
      have hst := store11 KV.out (.int .i64 0) (.int .i64 0) (.int .i64 0) (.int .i64 0) (.int .i64 0) (.int .i64 0) (.int .i64 0) (.int .i64 0) (.bool false) (.slice none 0 0) (.slice none 0 0)
      have hbe := hst.2.below HB.out (Nat.le_refl _)
      clear z0 y0 z1 y1 z2 y2 z3 y3 z4 y4 z5 y5 z6 y6 z7 y7 z8 y8 z9 y9 z10 y10 zlt
      generalize (((((((((((w1.setCell ⟨w.heap.size, 0, none⟩ (.int .i64 0)).setCell ⟨w.heap.size, 1, none⟩ (.int .i64 0)).setCell ⟨w.heap.size, 2, none⟩ (.int .i64 0)).setCell ⟨w.heap.size, 3, none⟩ (.int .i64 0)).setCell ⟨w.heap.size, 4, none⟩ (.int .i64 0)).setCell ⟨w.heap.size, 5, none⟩ (.int .i64 0)).setCell ⟨w.heap.size, 6, none⟩ (.int .i64 0)).setCell ⟨w.heap.size, 7, none⟩ (.int .i64 0)).setCell ⟨w.heap.size, 8, none⟩ (.bool false)).setCell ⟨w.heap.size, 9, none⟩ (.slice none 0 0)).setCell ⟨w.heap.size, 10, none⟩ (.slice none 0 0)) = ZZ at hst hbe ⊢
      have q0 := hst.1.cell 0
      have q1 := hst.1.cell 1
      have q2 := hst.1.cell 2
      have q3 := hst.1.cell 3
      have q4 := hst.1.cell 4
      have q5 := hst.1.cell 5
      have q6 := hst.1.cell 6
      have q7 := hst.1.cell 7
      have q8 := hst.1.cell 8
      have q9 := hst.1.cell 9
      have q10 := hst.1.cell 10
      simp at q0 q1 q2 q3 q4 q5 q6 q7 q8 q9 q10
      exact bodyPost_ret (v := .tuple #[zeroM, .int .i64 90]) (by simp [results, Try.results11, go_sem, zeroM, q0, q1, q2, q3, q4, q5, q6, q7, q8, q9, q10]) rfl ⟨rfl, hbe⟩
    have h2' : ¬ (N : Int) < (H : Int) := by omega
    have h3 : (hx.size : Int) < 4 * (H : Int) + 2 * ((N : Int) - (H : Int)) := by
      have e := EALL.out
      rw [ALL.out, EHH.out, qE, wiB_t1 (show (1 : Int) ≤ (H : Int) by omega) (show (H : Int) ≤ (N : Int) by omega)] at e
      have e2 : LB = false := by simpa using e.symm
      have := EL.out e2
      omega
    clear h1 h2
    clear ALL EALL EHH EL P1 P2 P3 P4 P5
    go_enter Try.func11, Try.ntmps11
    go_wp2_with fail
    rw [HVV.out]
    refine CF0.out.mono ?_
    rintro e w1 ⟨rfl, hw⟩
    replace hw := hw.symm
    subst hw
    go_wp2_with fail
    refine CF1.out.mono ?_
    rintro e w1 ⟨rfl, hw⟩
    replace hw := hw.symm
    subst hw
    go_wp2_with fail
    refine CF2.out.mono ?_
    rintro e w1 ⟨rfl, hw⟩
    replace hw := hw.symm
    subst hw
    go_wp2_with fail
    refine CF3.out.mono ?_
    rintro e w1 ⟨rfl, hw⟩
    replace hw := hw.symm
    subst hw
    go_wp2_with fail
    refine (CN.out _).mono ?_
    rintro e w1 ⟨rfl, m, hw⟩
    have kvn : Blk w1 w.heap.size zeroC 28 := by rw [hw]; exact KV.out.drewN m
    have hbn : Below w.heap.size w w1 := by rw [hw]; exact below_drewN HB.out m
    replace KV := hide kvn
    replace HB := hide hbn
    clear hw kvn hbn
    go_wp2_with fail
    refine (CH.out _).mono ?_
    rintro e w1 ⟨rfl, m, hw⟩
    have kvn : Blk w1 w.heap.size zeroC 28 := by rw [hw]; exact KV.out.drewN m
    have hbn : Below w.heap.size w w1 := by rw [hw]; exact below_drewN HB.out m
    replace KV := hide kvn
    replace HB := hide hbn
    clear hw kvn hbn
    go_wp2_with fail
    refine (CU.out _).mono ?_
    rintro e w1 ⟨rfl, m, hw⟩
    have kvn : Blk w1 w.heap.size zeroC 28 := by rw [hw]; exact KV.out.drewN m
    have hbn : Below w.heap.size w w1 := by rw [hw]; exact below_drewN HB.out m
    replace KV := hide kvn
    replace HB := hide hbn
    clear hw kvn hbn
    go_wp2_with fail
    refine (CO.out _).mono ?_
    rintro e w1 ⟨rfl, m, hw⟩
    have kvn : Blk w1 w.heap.size zeroC 28 := by rw [hw]; exact KV.out.drewN m
    have hbn : Below w.heap.size w w1 := by rw [hw]; exact below_drewN HB.out m
    replace KV := hide kvn
    replace HB := hide hbn
    clear hw kvn hbn
    have z0 := KV.out.cell 0
    have y0 := KV.out.frozen 0
    have z1 := KV.out.cell 1
    have y1 := KV.out.frozen 1
    have z2 := KV.out.cell 2
    have y2 := KV.out.frozen 2
    have z3 := KV.out.cell 3
    have y3 := KV.out.frozen 3
    have z4 := KV.out.cell 4
    have y4 := KV.out.frozen 4
    have z5 := KV.out.cell 5
    have y5 := KV.out.frozen 5
    have z6 := KV.out.cell 6
    have y6 := KV.out.frozen 6
    have z7 := KV.out.cell 7
    have y7 := KV.out.frozen 7
    have z8 := KV.out.cell 8
    have y8 := KV.out.frozen 8
    have z9 := KV.out.cell 9
    have y9 := KV.out.frozen 9
    have z10 := KV.out.cell 10
    have y10 := KV.out.frozen 10
    simp at z0 z1 z2 z3 z4 z5 z6 z7 z8 z9 z10
    have zlt := KV.out.lt
    go_wp2_with fail
    clear z0 y0 z1 y1 z2 y2 z3 y3 z4 y4 z5 y5 z6 y6 z7 y7 z8 y8 z9 y9 z10 y10 zlt
    refine (C52.out _).mono ?_
    rintro e w1 ⟨rfl, m, hw⟩
    have kvn : Blk w1 w.heap.size zeroC 28 := by rw [hw]; exact KV.out.drewN m
    have hbn : Below w.heap.size w w1 := by rw [hw]; exact below_drewN HB.out m
    replace KV := hide kvn
    replace HB := hide hbn
    clear hw kvn hbn
    have z0 := KV.out.cell 0
    have y0 := KV.out.frozen 0
    have z1 := KV.out.cell 1
    have y1 := KV.out.frozen 1
    have z2 := KV.out.cell 2
    have y2 := KV.out.frozen 2
    have z3 := KV.out.cell 3
    have y3 := KV.out.frozen 3
    have z4 := KV.out.cell 4
    have y4 := KV.out.frozen 4
    have z5 := KV.out.cell 5
    have y5 := KV.out.frozen 5
    have z6 := KV.out.cell 6
    have y6 := KV.out.frozen 6
    have z7 := KV.out.cell 7
    have y7 := KV.out.frozen 7
    have z8 := KV.out.cell 8
    have y8 := KV.out.frozen 8
    have z9 := KV.out.cell 9
    have y9 := KV.out.frozen 9
    have z10 := KV.out.cell 10
    have y10 := KV.out.frozen 10
    simp at z0 z1 z2 z3 z4 z5 z6 z7 z8 z9 z10
    have zlt := KV.out.lt
    go_wp2_with fail
    clear z0 y0 z1 y1 z2 y2 z3 y3 z4 y4 z5 y5 z6 y6 z7 y7 z8 y8 z9 y9 z10 y10 zlt
    refine (C32.out _).mono ?_
    rintro e w1 ⟨rfl, m, hw⟩
    have kvn : Blk w1 w.heap.size zeroC 28 := by rw [hw]; exact KV.out.drewN m
    have hbn : Below w.heap.size w w1 := by rw [hw]; exact below_drewN HB.out m
    replace KV := hide kvn
    replace HB := hide hbn
    clear hw kvn hbn
    have z0 := KV.out.cell 0
    have y0 := KV.out.frozen 0
    have z1 := KV.out.cell 1
    have y1 := KV.out.frozen 1
    have z2 := KV.out.cell 2
    have y2 := KV.out.frozen 2
    have z3 := KV.out.cell 3
    have y3 := KV.out.frozen 3
    have z4 := KV.out.cell 4
    have y4 := KV.out.frozen 4
    have z5 := KV.out.cell 5
    have y5 := KV.out.frozen 5
    have z6 := KV.out.cell 6
    have y6 := KV.out.frozen 6
    have z7 := KV.out.cell 7
    have y7 := KV.out.frozen 7
    have z8 := KV.out.cell 8
    have y8 := KV.out.frozen 8
    have z9 := KV.out.cell 9
    have y9 := KV.out.frozen 9
    have z10 := KV.out.cell 10
    have y10 := KV.out.frozen 10
    simp at z0 z1 z2 z3 z4 z5 z6 z7 z8 z9 z10
    have zlt := KV.out.lt
    go_wp2_with fail
    have hst := store11 KV.out (.int .i64 0) (.int .i64 0) (.int .i64 0) (.int .i64 0) (.int .i64 0) (.int .i64 0) (.int .i64 0) (.int .i64 0) (.bool false) (.slice none 0 0) (.slice none 0 0)
    have hbe := hst.2.below HB.out (Nat.le_refl _)
    clear z0 y0 z1 y1 z2 y2 z3 y3 z4 y4 z5 y5 z6 y6 z7 y7 z8 y8 z9 y9 z10 y10 zlt
    generalize (((((((((((w1.setCell ⟨w.heap.size, 0, none⟩ (.int .i64 0)).setCell ⟨w.heap.size, 1, none⟩ (.int .i64 0)).setCell ⟨w.heap.size, 2, none⟩ (.int .i64 0)).setCell ⟨w.heap.size, 3, none⟩ (.int .i64 0)).setCell ⟨w.heap.size, 4, none⟩ (.int .i64 0)).setCell ⟨w.heap.size, 5, none⟩ (.int .i64 0)).setCell ⟨w.heap.size, 6, none⟩ (.int .i64 0)).setCell ⟨w.heap.size, 7, none⟩ (.int .i64 0)).setCell ⟨w.heap.size, 8, none⟩ (.bool false)).setCell ⟨w.heap.size, 9, none⟩ (.slice none 0 0)).setCell ⟨w.heap.size, 10, none⟩ (.slice none 0 0)) = ZZ at hst hbe ⊢
    have q0 := hst.1.cell 0
    have q1 := hst.1.cell 1
    have q2 := hst.1.cell 2
    have q3 := hst.1.cell 3
    have q4 := hst.1.cell 4
    have q5 := hst.1.cell 5
    have q6 := hst.1.cell 6
    have q7 := hst.1.cell 7
    have q8 := hst.1.cell 8
    have q9 := hst.1.cell 9
    have q10 := hst.1.cell 10
    simp at q0 q1 q2 q3 q4 q5 q6 q7 q8 q9 q10
    exact bodyPost_ret (v := .tuple #[zeroM, .int .i64 90]) (by simp [results, Try.results11, go_sem, zeroM, q0, q1, q2, q3, q4, q5, q6, q7, q8, q9, q10]) rfl ⟨rfl, hbe⟩
end Go.Proofs.Ytehcpnbbgjinfaa
