/-
  What the landed room, table, write answer.
-/
import Derived.Test.YthhhepbflggojaaDoorE15Zb
import Derived.Laws.EntriesVeiled
namespace Go.Proofs.YthhhepbflggojaaDoor.E15
open Go.RowKit Go.Deep
set_option linter.unusedVariables false
set_option linter.unusedSimpArgs false
set_option maxRecDepth 8000

abbrev mf (n b : Nat) : Value := .func (Fn.func n) #[.pointer (some ⟨b, 0, none⟩)] #[]
abbrev tabC (b : Nat) : Array Value := #[.int .i64 1, mf 35 b, .int .i64 2, mf 36 b, .int .i64 3, mf 37 b, .int .i64 4, mf 38 b]
theorem room_any (m : Mk) (a : Option Addr) (n c : Nat) (w : World) :
    Calls Tryd.prog 22 #[.agg (mcs m (.slice a n c))] w fun e w' => e = .returned (.bool (decide ((n : Int) ≤ 262144))) ∧ Below w.heap.size w w' := by
  have hb := hide ((Below.refl w.heap.size w).alloc (Nat.le_refl _) (.cells (mcs m (.slice a n c)) 38))
  obtain ⟨K, f, s, x, y, gs, r0, r1, r2, r3⟩ := m
  simp only [mcs] at *
  by_cases h : n ≤ 262144
  · have h1 : (n : Int) ≤ 262144 := by omega
    have h2 : decide ((n : Int) ≤ 262144) = true := decide_eq_true h1
    rw [h2]
    go_enter Tryd.func22, Tryd.ntmps22
    go_wp2_with fail
    go_ret
    exact ⟨rfl, hb.out⟩
  · have h1 : ¬ (n : Int) ≤ 262144 := by omega
    have h2 : decide ((n : Int) ≤ 262144) = false := decide_eq_false h1
    rw [h2]
    go_enter Tryd.func22, Tryd.ntmps22
    go_wp2_with fail
    go_ret
    exact ⟨rfl, hb.out⟩
theorem table_any (b : Nat) (w : World) :
    Calls Tryd.prog 21 #[.pointer (some ⟨b, 0, none⟩)] w fun e w' => e = .returned (.slice (some ⟨w.heap.size, 0, none⟩) 4 4) ∧ w' = w.alloc (.cells (tabC b) 58) := by
  have hmf : ∀ (fn : Fn) (first cap : Array Value) (w : World), (Instr.makeFunc fn first cap).run Tryd.prog w = .ok (.func fn first cap) w := fun _ _ _ _ => rfl
  go_enter Tryd.func21, Tryd.ntmps21
  go_wp2_with fail
  go_ret
  exact ⟨rfl, rfl⟩
theorem tk_ne : (58 : TypeId) ≠ 5 := by decide
set_option maxHeartbeats 4000000 in
theorem write_1 (B b tb : Nat) (F T : List UInt8) (f s x0 y0 r0 r1 r2 r3 : Int) (a : Option Addr) (n c : Nat) (w : World) (h : WSt w B b F) (ht : Blk w tb (tabC b) 58) (hne : tb ≠ b)
    (C : ∀ u, WSt u B b F → PK B b w u → Calls Tryd.prog 35 #[.pointer (some ⟨b, 0, none⟩), .agg #[.int .i64 1, .int .i64 f, .int .i64 s, .int .i64 x0, .int .i64 y0, .slice a n c, .int .i64 r0, .int .i64 r1, .int .i64 r2, .int .i64 r3]] u fun e w' => e = .returned (.tuple #[]) ∧ WSt w' B b (F ++ T) ∧ PK B b u w') :
    Calls Tryd.prog 23 #[.slice (some ⟨tb, 0, none⟩) 4 4, .agg #[.int .i64 1, .int .i64 f, .int .i64 s, .int .i64 x0, .int .i64 y0, .slice a n c, .int .i64 r0, .int .i64 r1, .int .i64 r2, .int .i64 r3]] w fun e w' => e = .returned (.tuple #[]) ∧ WSt w' B b (F ++ T) ∧ PK B b w w' := by
  have hb := (Below.refl w.heap.size w).alloc (Nat.le_refl _) (.cells #[.int .i64 1, .int .i64 f, .int .i64 s, .int .i64 x0, .int .i64 y0, .slice a n c, .int .i64 r0, .int .i64 r1, .int .i64 r2, .int .i64 r3] 38)
  have k1 := Blk.new w #[.int .i64 1, .int .i64 f, .int .i64 s, .int .i64 x0, .int .i64 y0, .slice a n c, .int .i64 r0, .int .i64 r1, .int .i64 r2, .int .i64 r3] 38
  have HWS := hide (h.below hb)
  have HPK := hide (PK.of_below (b := b) hb h.hB)
  have HT := hide (ht.below hb)
  have HNE := hide hne
  have HN2 : Hid (w.heap.size ≠ b) := hide (by have := h.lt; omega)
  have C := hide C
  clear h ht hne
  go_enter Tryd.func23, Tryd.ntmps23
  go_upto_region 1 with (fail)
  obtain ⟨R, hR⟩ : ∃ R, w.heap.size = R := ⟨_, rfl⟩
  rw [hR] at k1
  have HK := hide k1
  generalize w.alloc (.cells #[.int .i64 1, .int .i64 f, .int .i64 s, .int .i64 x0, .int .i64 y0, .slice a n c, .int .i64 r0, .int .i64 r1, .int .i64 r2, .int .i64 r3] 38) = V at HK HWS HPK HT ⊢
  simp only [hR]
  have HNR : Hid (R ≠ b) := hide (by rw [← hR]; exact HN2.out)
  clear hb k1 hR HN2
  go_wp2_with fail
  refine wp_loop_rounds 5 ?_
  rw [rounds_succ]
  have t0 := HT.out.cell 0
  have t1 := HT.out.cell 1
  have tl := HT.out.lt
  have q0 := HK.out.cell 0
  have q1 := HK.out.cell 1
  have q2 := HK.out.cell 2
  have q3 := HK.out.cell 3
  have q4 := HK.out.cell 4
  have q5 := HK.out.cell 5
  have q6 := HK.out.cell 6
  have q7 := HK.out.cell 7
  have q8 := HK.out.cell 8
  have q9 := HK.out.cell 9
  have ql := HK.out.lt
  simp only [List.getElem?_toArray, List.getElem?_cons_succ, List.getElem?_cons_zero] at t0 t1 q0 q1 q2 q3 q4 q5 q6 q7 q8 q9
  have ha1 := (Below.refl V.heap.size V).alloc (Nat.le_refl _) (.cells #[.int .i64 1, mf 35 b] 58)
  have HA := hide ha1
  clear ha1
  go_wp2_with fail
  refine (C.out _ (HWS.out.below HA.out) (HPK.out.trans (PK.of_below HA.out HWS.out.hB))).mono ?_
  rintro e w1 ⟨rfl, hws, hpk⟩
  have HZ := hide (PK.trans (PK.of_below (b := b) HA.out HWS.out.hB) hpk)
  have HWS0 := HWS
  have HK0 := HK
  have HT0 := HT
  have HPK0 := HPK
  replace HWS := hide hws
  replace HK := hide (HZ.out.blk HK0.out HNR.out tm_ne)
  replace HT := hide (HZ.out.blk HT0.out HNE.out tk_ne)
  replace HPK := hide (HPK0.out.trans HZ.out)
  clear HWS0 HK0 HT0 HPK0 HZ HA hws hpk t0 t1 tl ql q0 q1 q2 q3 q4 q5 q6 q7 q8 q9
  go_wp2_with fail
  rw [rounds_succ]
  have t0 := HT.out.cell 2
  have t1 := HT.out.cell 3
  have tl := HT.out.lt
  have q0 := HK.out.cell 0
  have ql := HK.out.lt
  simp only [List.getElem?_toArray, List.getElem?_cons_succ, List.getElem?_cons_zero] at t0 t1 q0
  have ha2 := (Below.refl w1.heap.size w1).alloc (Nat.le_refl _) (.cells #[.int .i64 2, mf 36 b] 58)
  have HA := hide ha2
  clear ha2
  go_wp2_with fail
  generalize w1.alloc (.cells #[.int .i64 2, mf 36 b] 58) = W2 at HA ⊢
  have HWS0 := HWS
  have HK0 := HK
  have HT0 := HT
  have HPK0 := HPK
  replace HPK := hide (HPK0.out.trans (PK.of_below HA.out HWS0.out.hB))
  replace HWS := hide (HWS0.out.below HA.out)
  replace HK := hide (HK0.out.below HA.out)
  replace HT := hide (HT0.out.below HA.out)
  clear HWS0 HK0 HT0 HPK0 HA t0 t1 tl ql q0
  rw [rounds_succ]
  have t0 := HT.out.cell 4
  have t1 := HT.out.cell 5
  have tl := HT.out.lt
  have q0 := HK.out.cell 0
  have ql := HK.out.lt
  simp only [List.getElem?_toArray, List.getElem?_cons_succ, List.getElem?_cons_zero] at t0 t1 q0
  have ha3 := (Below.refl W2.heap.size W2).alloc (Nat.le_refl _) (.cells #[.int .i64 3, mf 37 b] 58)
  have HA := hide ha3
  clear ha3
  go_wp2_with fail
  generalize W2.alloc (.cells #[.int .i64 3, mf 37 b] 58) = W3 at HA ⊢
  have HWS0 := HWS
  have HK0 := HK
  have HT0 := HT
  have HPK0 := HPK
  replace HPK := hide (HPK0.out.trans (PK.of_below HA.out HWS0.out.hB))
  replace HWS := hide (HWS0.out.below HA.out)
  replace HK := hide (HK0.out.below HA.out)
  replace HT := hide (HT0.out.below HA.out)
  clear HWS0 HK0 HT0 HPK0 HA t0 t1 tl ql q0
  rw [rounds_succ]
  have t0 := HT.out.cell 6
  have t1 := HT.out.cell 7
  have tl := HT.out.lt
  have q0 := HK.out.cell 0
  have ql := HK.out.lt
  simp only [List.getElem?_toArray, List.getElem?_cons_succ, List.getElem?_cons_zero] at t0 t1 q0
  have ha4 := (Below.refl W3.heap.size W3).alloc (Nat.le_refl _) (.cells #[.int .i64 4, mf 38 b] 58)
  have HA := hide ha4
  clear ha4
  go_wp2_with fail
  generalize W3.alloc (.cells #[.int .i64 4, mf 38 b] 58) = W4 at HA ⊢
  have HWS0 := HWS
  have HK0 := HK
  have HT0 := HT
  have HPK0 := HPK
  replace HPK := hide (HPK0.out.trans (PK.of_below HA.out HWS0.out.hB))
  replace HWS := hide (HWS0.out.below HA.out)
  replace HK := hide (HK0.out.below HA.out)
  replace HT := hide (HT0.out.below HA.out)
  clear HWS0 HK0 HT0 HPK0 HA t0 t1 tl ql q0
  rw [rounds_succ]
  go_wp2_with fail
  go_end0
  exact ⟨rfl, HWS.out, HPK.out⟩
set_option maxHeartbeats 4000000 in
theorem write_2 (B b tb : Nat) (F T : List UInt8) (f s x0 y0 r0 r1 r2 r3 : Int) (a : Option Addr) (n c : Nat) (w : World) (h : WSt w B b F) (ht : Blk w tb (tabC b) 58) (hne : tb ≠ b)
    (C : ∀ u, WSt u B b F → PK B b w u → Calls Tryd.prog 36 #[.pointer (some ⟨b, 0, none⟩), .agg #[.int .i64 2, .int .i64 f, .int .i64 s, .int .i64 x0, .int .i64 y0, .slice a n c, .int .i64 r0, .int .i64 r1, .int .i64 r2, .int .i64 r3]] u fun e w' => e = .returned (.tuple #[]) ∧ WSt w' B b (F ++ T) ∧ PK B b u w') :
    Calls Tryd.prog 23 #[.slice (some ⟨tb, 0, none⟩) 4 4, .agg #[.int .i64 2, .int .i64 f, .int .i64 s, .int .i64 x0, .int .i64 y0, .slice a n c, .int .i64 r0, .int .i64 r1, .int .i64 r2, .int .i64 r3]] w fun e w' => e = .returned (.tuple #[]) ∧ WSt w' B b (F ++ T) ∧ PK B b w w' := by
  have hb := (Below.refl w.heap.size w).alloc (Nat.le_refl _) (.cells #[.int .i64 2, .int .i64 f, .int .i64 s, .int .i64 x0, .int .i64 y0, .slice a n c, .int .i64 r0, .int .i64 r1, .int .i64 r2, .int .i64 r3] 38)
  have k1 := Blk.new w #[.int .i64 2, .int .i64 f, .int .i64 s, .int .i64 x0, .int .i64 y0, .slice a n c, .int .i64 r0, .int .i64 r1, .int .i64 r2, .int .i64 r3] 38
  have HWS := hide (h.below hb)
  have HPK := hide (PK.of_below (b := b) hb h.hB)
  have HT := hide (ht.below hb)
  have HNE := hide hne
  have HN2 : Hid (w.heap.size ≠ b) := hide (by have := h.lt; omega)
  have C := hide C
  clear h ht hne
  go_enter Tryd.func23, Tryd.ntmps23
  go_upto_region 1 with (fail)
  obtain ⟨R, hR⟩ : ∃ R, w.heap.size = R := ⟨_, rfl⟩
  rw [hR] at k1
  have HK := hide k1
  generalize w.alloc (.cells #[.int .i64 2, .int .i64 f, .int .i64 s, .int .i64 x0, .int .i64 y0, .slice a n c, .int .i64 r0, .int .i64 r1, .int .i64 r2, .int .i64 r3] 38) = V at HK HWS HPK HT ⊢
  simp only [hR]
  have HNR : Hid (R ≠ b) := hide (by rw [← hR]; exact HN2.out)
  clear hb k1 hR HN2
  go_wp2_with fail
  refine wp_loop_rounds 5 ?_
  rw [rounds_succ]
  have t0 := HT.out.cell 0
  have t1 := HT.out.cell 1
  have tl := HT.out.lt
  have q0 := HK.out.cell 0
  have ql := HK.out.lt
  simp only [List.getElem?_toArray, List.getElem?_cons_succ, List.getElem?_cons_zero] at t0 t1 q0
  have ha1 := (Below.refl V.heap.size V).alloc (Nat.le_refl _) (.cells #[.int .i64 1, mf 35 b] 58)
  have HA := hide ha1
  clear ha1
  go_wp2_with fail
  generalize V.alloc (.cells #[.int .i64 1, mf 35 b] 58) = W1 at HA ⊢
  have HWS0 := HWS
  have HK0 := HK
  have HT0 := HT
  have HPK0 := HPK
  replace HPK := hide (HPK0.out.trans (PK.of_below HA.out HWS0.out.hB))
  replace HWS := hide (HWS0.out.below HA.out)
  replace HK := hide (HK0.out.below HA.out)
  replace HT := hide (HT0.out.below HA.out)
  clear HWS0 HK0 HT0 HPK0 HA t0 t1 tl ql q0
  rw [rounds_succ]
  have t0 := HT.out.cell 2
  have t1 := HT.out.cell 3
  have tl := HT.out.lt
  have q0 := HK.out.cell 0
  have q1 := HK.out.cell 1
  have q2 := HK.out.cell 2
  have q3 := HK.out.cell 3
  have q4 := HK.out.cell 4
  have q5 := HK.out.cell 5
  have q6 := HK.out.cell 6
  have q7 := HK.out.cell 7
  have q8 := HK.out.cell 8
  have q9 := HK.out.cell 9
  have ql := HK.out.lt
  simp only [List.getElem?_toArray, List.getElem?_cons_succ, List.getElem?_cons_zero] at t0 t1 q0 q1 q2 q3 q4 q5 q6 q7 q8 q9
  have ha2 := (Below.refl W1.heap.size W1).alloc (Nat.le_refl _) (.cells #[.int .i64 2, mf 36 b] 58)
  have HA := hide ha2
  clear ha2
  go_wp2_with fail
  refine (C.out _ (HWS.out.below HA.out) (HPK.out.trans (PK.of_below HA.out HWS.out.hB))).mono ?_
  rintro e w2 ⟨rfl, hws, hpk⟩
  have HZ := hide (PK.trans (PK.of_below (b := b) HA.out HWS.out.hB) hpk)
  have HWS0 := HWS
  have HK0 := HK
  have HT0 := HT
  have HPK0 := HPK
  replace HWS := hide hws
  replace HK := hide (HZ.out.blk HK0.out HNR.out tm_ne)
  replace HT := hide (HZ.out.blk HT0.out HNE.out tk_ne)
  replace HPK := hide (HPK0.out.trans HZ.out)
  clear HWS0 HK0 HT0 HPK0 HZ HA hws hpk t0 t1 tl ql q0 q1 q2 q3 q4 q5 q6 q7 q8 q9
  go_wp2_with fail
  rw [rounds_succ]
  have t0 := HT.out.cell 4
  have t1 := HT.out.cell 5
  have tl := HT.out.lt
  have q0 := HK.out.cell 0
  have ql := HK.out.lt
  simp only [List.getElem?_toArray, List.getElem?_cons_succ, List.getElem?_cons_zero] at t0 t1 q0
  have ha3 := (Below.refl w2.heap.size w2).alloc (Nat.le_refl _) (.cells #[.int .i64 3, mf 37 b] 58)
  have HA := hide ha3
  clear ha3
  go_wp2_with fail
  generalize w2.alloc (.cells #[.int .i64 3, mf 37 b] 58) = W3 at HA ⊢
  have HWS0 := HWS
  have HK0 := HK
  have HT0 := HT
  have HPK0 := HPK
  replace HPK := hide (HPK0.out.trans (PK.of_below HA.out HWS0.out.hB))
  replace HWS := hide (HWS0.out.below HA.out)
  replace HK := hide (HK0.out.below HA.out)
  replace HT := hide (HT0.out.below HA.out)
  clear HWS0 HK0 HT0 HPK0 HA t0 t1 tl ql q0
  rw [rounds_succ]
  have t0 := HT.out.cell 6
  have t1 := HT.out.cell 7
  have tl := HT.out.lt
  have q0 := HK.out.cell 0
  have ql := HK.out.lt
  simp only [List.getElem?_toArray, List.getElem?_cons_succ, List.getElem?_cons_zero] at t0 t1 q0
  have ha4 := (Below.refl W3.heap.size W3).alloc (Nat.le_refl _) (.cells #[.int .i64 4, mf 38 b] 58)
  have HA := hide ha4
  clear ha4
  go_wp2_with fail
  generalize W3.alloc (.cells #[.int .i64 4, mf 38 b] 58) = W4 at HA ⊢
  have HWS0 := HWS
  have HK0 := HK
  have HT0 := HT
  have HPK0 := HPK
  replace HPK := hide (HPK0.out.trans (PK.of_below HA.out HWS0.out.hB))
  replace HWS := hide (HWS0.out.below HA.out)
  replace HK := hide (HK0.out.below HA.out)
  replace HT := hide (HT0.out.below HA.out)
  clear HWS0 HK0 HT0 HPK0 HA t0 t1 tl ql q0
  rw [rounds_succ]
  go_wp2_with fail
  go_end0
  exact ⟨rfl, HWS.out, HPK.out⟩
set_option maxHeartbeats 4000000 in
theorem write_3 (B b tb : Nat) (F T : List UInt8) (f s x0 y0 r0 r1 r2 r3 : Int) (a : Option Addr) (n c : Nat) (w : World) (h : WSt w B b F) (ht : Blk w tb (tabC b) 58) (hne : tb ≠ b)
    (C : ∀ u, WSt u B b F → PK B b w u → Calls Tryd.prog 37 #[.pointer (some ⟨b, 0, none⟩), .agg #[.int .i64 3, .int .i64 f, .int .i64 s, .int .i64 x0, .int .i64 y0, .slice a n c, .int .i64 r0, .int .i64 r1, .int .i64 r2, .int .i64 r3]] u fun e w' => e = .returned (.tuple #[]) ∧ WSt w' B b (F ++ T) ∧ PK B b u w') :
    Calls Tryd.prog 23 #[.slice (some ⟨tb, 0, none⟩) 4 4, .agg #[.int .i64 3, .int .i64 f, .int .i64 s, .int .i64 x0, .int .i64 y0, .slice a n c, .int .i64 r0, .int .i64 r1, .int .i64 r2, .int .i64 r3]] w fun e w' => e = .returned (.tuple #[]) ∧ WSt w' B b (F ++ T) ∧ PK B b w w' := by
  have hb := (Below.refl w.heap.size w).alloc (Nat.le_refl _) (.cells #[.int .i64 3, .int .i64 f, .int .i64 s, .int .i64 x0, .int .i64 y0, .slice a n c, .int .i64 r0, .int .i64 r1, .int .i64 r2, .int .i64 r3] 38)
  have k1 := Blk.new w #[.int .i64 3, .int .i64 f, .int .i64 s, .int .i64 x0, .int .i64 y0, .slice a n c, .int .i64 r0, .int .i64 r1, .int .i64 r2, .int .i64 r3] 38
  have HWS := hide (h.below hb)
  have HPK := hide (PK.of_below (b := b) hb h.hB)
  have HT := hide (ht.below hb)
  have HNE := hide hne
  have HN2 : Hid (w.heap.size ≠ b) := hide (by have := h.lt; omega)
  have C := hide C
  clear h ht hne
  go_enter Tryd.func23, Tryd.ntmps23
  go_upto_region 1 with (fail)
  obtain ⟨R, hR⟩ : ∃ R, w.heap.size = R := ⟨_, rfl⟩
  rw [hR] at k1
  have HK := hide k1
  generalize w.alloc (.cells #[.int .i64 3, .int .i64 f, .int .i64 s, .int .i64 x0, .int .i64 y0, .slice a n c, .int .i64 r0, .int .i64 r1, .int .i64 r2, .int .i64 r3] 38) = V at HK HWS HPK HT ⊢
  simp only [hR]
  have HNR : Hid (R ≠ b) := hide (by rw [← hR]; exact HN2.out)
  clear hb k1 hR HN2
  go_wp2_with fail
  refine wp_loop_rounds 5 ?_
  rw [rounds_succ]
  have t0 := HT.out.cell 0
  have t1 := HT.out.cell 1
  have tl := HT.out.lt
  have q0 := HK.out.cell 0
  have ql := HK.out.lt
  simp only [List.getElem?_toArray, List.getElem?_cons_succ, List.getElem?_cons_zero] at t0 t1 q0
  have ha1 := (Below.refl V.heap.size V).alloc (Nat.le_refl _) (.cells #[.int .i64 1, mf 35 b] 58)
  have HA := hide ha1
  clear ha1
  go_wp2_with fail
  generalize V.alloc (.cells #[.int .i64 1, mf 35 b] 58) = W1 at HA ⊢
  have HWS0 := HWS
  have HK0 := HK
  have HT0 := HT
  have HPK0 := HPK
  replace HPK := hide (HPK0.out.trans (PK.of_below HA.out HWS0.out.hB))
  replace HWS := hide (HWS0.out.below HA.out)
  replace HK := hide (HK0.out.below HA.out)
  replace HT := hide (HT0.out.below HA.out)
  clear HWS0 HK0 HT0 HPK0 HA t0 t1 tl ql q0
  rw [rounds_succ]
  have t0 := HT.out.cell 2
  have t1 := HT.out.cell 3
  have tl := HT.out.lt
  have q0 := HK.out.cell 0
  have ql := HK.out.lt
  simp only [List.getElem?_toArray, List.getElem?_cons_succ, List.getElem?_cons_zero] at t0 t1 q0
  have ha2 := (Below.refl W1.heap.size W1).alloc (Nat.le_refl _) (.cells #[.int .i64 2, mf 36 b] 58)
  have HA := hide ha2
  clear ha2
  go_wp2_with fail
  generalize W1.alloc (.cells #[.int .i64 2, mf 36 b] 58) = W2 at HA ⊢
  have HWS0 := HWS
  have HK0 := HK
  have HT0 := HT
  have HPK0 := HPK
  replace HPK := hide (HPK0.out.trans (PK.of_below HA.out HWS0.out.hB))
  replace HWS := hide (HWS0.out.below HA.out)
  replace HK := hide (HK0.out.below HA.out)
  replace HT := hide (HT0.out.below HA.out)
  clear HWS0 HK0 HT0 HPK0 HA t0 t1 tl ql q0
  rw [rounds_succ]
  have t0 := HT.out.cell 4
  have t1 := HT.out.cell 5
  have tl := HT.out.lt
  have q0 := HK.out.cell 0
  have q1 := HK.out.cell 1
  have q2 := HK.out.cell 2
  have q3 := HK.out.cell 3
  have q4 := HK.out.cell 4
  have q5 := HK.out.cell 5
  have q6 := HK.out.cell 6
  have q7 := HK.out.cell 7
  have q8 := HK.out.cell 8
  have q9 := HK.out.cell 9
  have ql := HK.out.lt
  simp only [List.getElem?_toArray, List.getElem?_cons_succ, List.getElem?_cons_zero] at t0 t1 q0 q1 q2 q3 q4 q5 q6 q7 q8 q9
  have ha3 := (Below.refl W2.heap.size W2).alloc (Nat.le_refl _) (.cells #[.int .i64 3, mf 37 b] 58)
  have HA := hide ha3
  clear ha3
  go_wp2_with fail
  refine (C.out _ (HWS.out.below HA.out) (HPK.out.trans (PK.of_below HA.out HWS.out.hB))).mono ?_
  rintro e w3 ⟨rfl, hws, hpk⟩
  have HZ := hide (PK.trans (PK.of_below (b := b) HA.out HWS.out.hB) hpk)
  have HWS0 := HWS
  have HK0 := HK
  have HT0 := HT
  have HPK0 := HPK
  replace HWS := hide hws
  replace HK := hide (HZ.out.blk HK0.out HNR.out tm_ne)
  replace HT := hide (HZ.out.blk HT0.out HNE.out tk_ne)
  replace HPK := hide (HPK0.out.trans HZ.out)
  clear HWS0 HK0 HT0 HPK0 HZ HA hws hpk t0 t1 tl ql q0 q1 q2 q3 q4 q5 q6 q7 q8 q9
  go_wp2_with fail
  rw [rounds_succ]
  have t0 := HT.out.cell 6
  have t1 := HT.out.cell 7
  have tl := HT.out.lt
  have q0 := HK.out.cell 0
  have ql := HK.out.lt
  simp only [List.getElem?_toArray, List.getElem?_cons_succ, List.getElem?_cons_zero] at t0 t1 q0
  have ha4 := (Below.refl w3.heap.size w3).alloc (Nat.le_refl _) (.cells #[.int .i64 4, mf 38 b] 58)
  have HA := hide ha4
  clear ha4
  go_wp2_with fail
  generalize w3.alloc (.cells #[.int .i64 4, mf 38 b] 58) = W4 at HA ⊢
  have HWS0 := HWS
  have HK0 := HK
  have HT0 := HT
  have HPK0 := HPK
  replace HPK := hide (HPK0.out.trans (PK.of_below HA.out HWS0.out.hB))
  replace HWS := hide (HWS0.out.below HA.out)
  replace HK := hide (HK0.out.below HA.out)
  replace HT := hide (HT0.out.below HA.out)
  clear HWS0 HK0 HT0 HPK0 HA t0 t1 tl ql q0
  rw [rounds_succ]
  go_wp2_with fail
  go_end0
  exact ⟨rfl, HWS.out, HPK.out⟩
set_option maxHeartbeats 4000000 in
theorem write_4 (B b tb : Nat) (F T : List UInt8) (f s x0 y0 r0 r1 r2 r3 : Int) (a : Option Addr) (n c : Nat) (w : World) (h : WSt w B b F) (ht : Blk w tb (tabC b) 58) (hne : tb ≠ b)
    (C : ∀ u, WSt u B b F → PK B b w u → Calls Tryd.prog 38 #[.pointer (some ⟨b, 0, none⟩), .agg #[.int .i64 4, .int .i64 f, .int .i64 s, .int .i64 x0, .int .i64 y0, .slice a n c, .int .i64 r0, .int .i64 r1, .int .i64 r2, .int .i64 r3]] u fun e w' => e = .returned (.tuple #[]) ∧ WSt w' B b (F ++ T) ∧ PK B b u w') :
    Calls Tryd.prog 23 #[.slice (some ⟨tb, 0, none⟩) 4 4, .agg #[.int .i64 4, .int .i64 f, .int .i64 s, .int .i64 x0, .int .i64 y0, .slice a n c, .int .i64 r0, .int .i64 r1, .int .i64 r2, .int .i64 r3]] w fun e w' => e = .returned (.tuple #[]) ∧ WSt w' B b (F ++ T) ∧ PK B b w w' := by
  have hb := (Below.refl w.heap.size w).alloc (Nat.le_refl _) (.cells #[.int .i64 4, .int .i64 f, .int .i64 s, .int .i64 x0, .int .i64 y0, .slice a n c, .int .i64 r0, .int .i64 r1, .int .i64 r2, .int .i64 r3] 38)
  have k1 := Blk.new w #[.int .i64 4, .int .i64 f, .int .i64 s, .int .i64 x0, .int .i64 y0, .slice a n c, .int .i64 r0, .int .i64 r1, .int .i64 r2, .int .i64 r3] 38
  have HWS := hide (h.below hb)
  have HPK := hide (PK.of_below (b := b) hb h.hB)
  have HT := hide (ht.below hb)
  have HNE := hide hne
  have HN2 : Hid (w.heap.size ≠ b) := hide (by have := h.lt; omega)
  have C := hide C
  clear h ht hne
  go_enter Tryd.func23, Tryd.ntmps23
  go_upto_region 1 with (fail)
  obtain ⟨R, hR⟩ : ∃ R, w.heap.size = R := ⟨_, rfl⟩
  rw [hR] at k1
  have HK := hide k1
  generalize w.alloc (.cells #[.int .i64 4, .int .i64 f, .int .i64 s, .int .i64 x0, .int .i64 y0, .slice a n c, .int .i64 r0, .int .i64 r1, .int .i64 r2, .int .i64 r3] 38) = V at HK HWS HPK HT ⊢
  simp only [hR]
  have HNR : Hid (R ≠ b) := hide (by rw [← hR]; exact HN2.out)
  clear hb k1 hR HN2
  go_wp2_with fail
  refine wp_loop_rounds 5 ?_
  rw [rounds_succ]
  have t0 := HT.out.cell 0
  have t1 := HT.out.cell 1
  have tl := HT.out.lt
  have q0 := HK.out.cell 0
  have ql := HK.out.lt
  simp only [List.getElem?_toArray, List.getElem?_cons_succ, List.getElem?_cons_zero] at t0 t1 q0
  have ha1 := (Below.refl V.heap.size V).alloc (Nat.le_refl _) (.cells #[.int .i64 1, mf 35 b] 58)
  have HA := hide ha1
  clear ha1
  go_wp2_with fail
  generalize V.alloc (.cells #[.int .i64 1, mf 35 b] 58) = W1 at HA ⊢
  have HWS0 := HWS
  have HK0 := HK
  have HT0 := HT
  have HPK0 := HPK
  replace HPK := hide (HPK0.out.trans (PK.of_below HA.out HWS0.out.hB))
  replace HWS := hide (HWS0.out.below HA.out)
  replace HK := hide (HK0.out.below HA.out)
  replace HT := hide (HT0.out.below HA.out)
  clear HWS0 HK0 HT0 HPK0 HA t0 t1 tl ql q0
  rw [rounds_succ]
  have t0 := HT.out.cell 2
  have t1 := HT.out.cell 3
  have tl := HT.out.lt
  have q0 := HK.out.cell 0
  have ql := HK.out.lt
  simp only [List.getElem?_toArray, List.getElem?_cons_succ, List.getElem?_cons_zero] at t0 t1 q0
  have ha2 := (Below.refl W1.heap.size W1).alloc (Nat.le_refl _) (.cells #[.int .i64 2, mf 36 b] 58)
  have HA := hide ha2
  clear ha2
  go_wp2_with fail
  generalize W1.alloc (.cells #[.int .i64 2, mf 36 b] 58) = W2 at HA ⊢
  have HWS0 := HWS
  have HK0 := HK
  have HT0 := HT
  have HPK0 := HPK
  replace HPK := hide (HPK0.out.trans (PK.of_below HA.out HWS0.out.hB))
  replace HWS := hide (HWS0.out.below HA.out)
  replace HK := hide (HK0.out.below HA.out)
  replace HT := hide (HT0.out.below HA.out)
  clear HWS0 HK0 HT0 HPK0 HA t0 t1 tl ql q0
  rw [rounds_succ]
  have t0 := HT.out.cell 4
  have t1 := HT.out.cell 5
  have tl := HT.out.lt
  have q0 := HK.out.cell 0
  have ql := HK.out.lt
  simp only [List.getElem?_toArray, List.getElem?_cons_succ, List.getElem?_cons_zero] at t0 t1 q0
  have ha3 := (Below.refl W2.heap.size W2).alloc (Nat.le_refl _) (.cells #[.int .i64 3, mf 37 b] 58)
  have HA := hide ha3
  clear ha3
  go_wp2_with fail
  generalize W2.alloc (.cells #[.int .i64 3, mf 37 b] 58) = W3 at HA ⊢
  have HWS0 := HWS
  have HK0 := HK
  have HT0 := HT
  have HPK0 := HPK
  replace HPK := hide (HPK0.out.trans (PK.of_below HA.out HWS0.out.hB))
  replace HWS := hide (HWS0.out.below HA.out)
  replace HK := hide (HK0.out.below HA.out)
  replace HT := hide (HT0.out.below HA.out)
  clear HWS0 HK0 HT0 HPK0 HA t0 t1 tl ql q0
  rw [rounds_succ]
  have t0 := HT.out.cell 6
  have t1 := HT.out.cell 7
  have tl := HT.out.lt
  have q0 := HK.out.cell 0
  have q1 := HK.out.cell 1
  have q2 := HK.out.cell 2
  have q3 := HK.out.cell 3
  have q4 := HK.out.cell 4
  have q5 := HK.out.cell 5
  have q6 := HK.out.cell 6
  have q7 := HK.out.cell 7
  have q8 := HK.out.cell 8
  have q9 := HK.out.cell 9
  have ql := HK.out.lt
  simp only [List.getElem?_toArray, List.getElem?_cons_succ, List.getElem?_cons_zero] at t0 t1 q0 q1 q2 q3 q4 q5 q6 q7 q8 q9
  have ha4 := (Below.refl W3.heap.size W3).alloc (Nat.le_refl _) (.cells #[.int .i64 4, mf 38 b] 58)
  have HA := hide ha4
  clear ha4
  go_wp2_with fail
  refine (C.out _ (HWS.out.below HA.out) (HPK.out.trans (PK.of_below HA.out HWS.out.hB))).mono ?_
  rintro e w4 ⟨rfl, hws, hpk⟩
  have HZ := hide (PK.trans (PK.of_below (b := b) HA.out HWS.out.hB) hpk)
  have HWS0 := HWS
  have HK0 := HK
  have HT0 := HT
  have HPK0 := HPK
  replace HWS := hide hws
  replace HK := hide (HZ.out.blk HK0.out HNR.out tm_ne)
  replace HT := hide (HZ.out.blk HT0.out HNE.out tk_ne)
  replace HPK := hide (HPK0.out.trans HZ.out)
  clear HWS0 HK0 HT0 HPK0 HZ HA hws hpk t0 t1 tl ql q0 q1 q2 q3 q4 q5 q6 q7 q8 q9
  go_wp2_with fail
  rw [rounds_succ]
  go_wp2_with fail
  go_end0
  exact ⟨rfl, HWS.out, HPK.out⟩
end Go.Proofs.YthhhepbflggojaaDoor.E15
