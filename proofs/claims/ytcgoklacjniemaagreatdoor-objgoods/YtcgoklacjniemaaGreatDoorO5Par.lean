/-
  What the landed Parse answers where its reader answers an array of one reference.
-/
import Derived.Test.YtcgoklacjniemaaGreatDoorO5ObjA
import Derived.Defers
import Derived.Recover
import Derived.Laws.Pointers
import Derived.BigRegion
namespace Go.Proofs.YtcgoklacjniemaaGreatDoor
open Go.RowKit Go.Deep

theorem catch_idle (p q r : Addr) (w : World) :
    CallsD Tryz.prog 31 #[.pointer (some p), .pointer (some q), .pointer (some r)] .returning w fun e u' w' => e = .returned (.tuple #[]) ∧ u' = .returning ∧ w' = w := by
  refine callsD_of_wpS Tryz.func31 rfl fun c₀ cs hu => ?_
  apply wpS_seq
  apply wpS_region
  simp [wpOpsS, go_sem, recoverD, hu, Tryz.ntmps31, Exit.thenS]
  refine wpS_cond (t := false) (by simp [Act.eval, Array.replicate]) ?_
  simp only [Bool.false_eq_true, if_false]
  refine wpS_of_wp (wp_skip ?_)
  cases c₀
  simp_all [bodyPostS, results, Tryz.results31]
set_option maxRecDepth 8000 in
set_option maxHeartbeats 4000000 in
theorem parse_arr (s : ByteArray) (a : Nat) (w : World) (hs : s.size ≤ 16777216) (ha : a ≤ s.size) (x e2 : Nat)
    (HO : ∀ b w, RAt w b s a 65536 → Calls Tryz.prog 32 #[.pointer (some ⟨b, 0, none⟩), .int .i64 1] w fun e w' => (∃ ia ic, e = .returned (ov arrP none 0 ia 1 ic) ∧ OIn (fresh w.heap.size w') arrP (arrT x) none 0 ia ic) ∧ But b w w' ∧ RAt w' b s e2 (65536 - 1 - 1)) :
    Calls Tryz.prog 20 #[.string s, .int .i64 a] w fun e w' => (∃ ia ic, e = .returned (.tuple #[ov arrP none 0 ia 1 ic, .int .i64 e2, .int .i64 0]) ∧ OIn (fresh w.heap.size w') arrP (arrT x) none 0 ia ic) ∧ Below w.heap.size w w' := by
  have hmf : ∀ (fn : Fn) (first cap : Array Value) (w : World), (Instr.makeFunc fn first cap).run Tryz.prog w = .ok (.func fn first cap) w := fun _ _ _ _ => rfl
  have CO := hide HO
  have hs' : decide ((16777216 : Int) < (s.size : Int)) = false := by simp; omega
  have ha' : decide ((a : Int) < 0) = false := by simp
  have ha2 : decide ((s.size : Int) < (a : Int)) = false := by simp; omega
  clear HO
  go_enter_defers Tryz.func20, Tryz.ntmps20
  go_wp2_with fail
  have hb0 : Below w.heap.size w ((((w.alloc (.cells zobj 25)).alloc (.cells #[.int .i64 0] 3)).alloc (.cells #[.int .i64 0] 33)).alloc (.cells #[.string s, .int .i64 a, .int .i64 65536] 55)) := ((((Below.refl w.heap.size w).alloc (Nat.le_refl _) _).alloc (by simp) _).alloc (by simp; omega) _).alloc (by simp; omega) _
  have hal : ∀ (u : World) (o : Obj), Below u.heap.size u (u.alloc o) := fun u o => (Below.refl _ _).alloc (Nat.le_refl _) _
  have hsz1 : (w.alloc (.cells zobj 25)).heap.size = w.heap.size + 1 := by simp
  have hsz2 : ((w.alloc (.cells zobj 25)).alloc (.cells #[.int .i64 0] 3)).heap.size = w.heap.size + 1 + 1 := by simp
  have hsz3 : (((w.alloc (.cells zobj 25)).alloc (.cells #[.int .i64 0] 3)).alloc (.cells #[.int .i64 0] 33)).heap.size = w.heap.size + 1 + 1 + 1 := by simp
  have k0 : Blk ((((w.alloc (.cells zobj 25)).alloc (.cells #[.int .i64 0] 3)).alloc (.cells #[.int .i64 0] 33)).alloc (.cells #[.string s, .int .i64 a, .int .i64 65536] 55)) w.heap.size zobj 25 := (((Blk.new w _ _).below (hal _ _)).below (hal _ _)).below (hal _ _)
  have k1 : Blk ((((w.alloc (.cells zobj 25)).alloc (.cells #[.int .i64 0] 3)).alloc (.cells #[.int .i64 0] 33)).alloc (.cells #[.string s, .int .i64 a, .int .i64 65536] 55)) (w.heap.size + 1) #[.int .i64 0] 3 := by
    have := Blk.new (w.alloc (.cells zobj 25)) #[.int .i64 0] 3
    rw [hsz1] at this
    exact (this.below (hal _ _)).below (hal _ _)
  have k2 : Blk ((((w.alloc (.cells zobj 25)).alloc (.cells #[.int .i64 0] 3)).alloc (.cells #[.int .i64 0] 33)).alloc (.cells #[.string s, .int .i64 a, .int .i64 65536] 55)) (w.heap.size + 1 + 1) #[.int .i64 0] 33 := by
    have := Blk.new ((w.alloc (.cells zobj 25)).alloc (.cells #[.int .i64 0] 3)) #[.int .i64 0] 33
    rw [hsz2] at this
    exact this.below (hal _ _)
  have k3 : RAt ((((w.alloc (.cells zobj 25)).alloc (.cells #[.int .i64 0] 3)).alloc (.cells #[.int .i64 0] 33)).alloc (.cells #[.string s, .int .i64 a, .int .i64 65536] 55)) (w.heap.size + 1 + 1 + 1) s a 65536 := by
    have := Blk.new (((w.alloc (.cells zobj 25)).alloc (.cells #[.int .i64 0] 3)).alloc (.cells #[.int .i64 0] 33)) #[.string s, .int .i64 a, .int .i64 65536] 55
    rw [hsz3] at this
    exact this
  have hz0 : ((((w.alloc (.cells zobj 25)).alloc (.cells #[.int .i64 0] 3)).alloc (.cells #[.int .i64 0] 33)).alloc (.cells #[.string s, .int .i64 a, .int .i64 65536] 55)).heap.size = w.heap.size + 1 + 1 + 1 + 1 := by simp
  have HB0 := hide hb0
  have HK0 := hide k0
  have HK1 := hide k1
  have HK2 := hide k2
  have HK3 := hide k3
  generalize ((((w.alloc (.cells zobj 25)).alloc (.cells #[.int .i64 0] 3)).alloc (.cells #[.int .i64 0] 33)).alloc (.cells #[.string s, .int .i64 a, .int .i64 65536] 55)) = w0 at HB0 HK0 HK1 HK2 HK3 hz0 ⊢
  clear hb0 hal hsz1 hsz2 hsz3 k0 k1 k2 k3
  refine (CO.out _ _ HK3.out).mono ?_
  rintro e w1 ⟨⟨ia, ic, rfl, hin⟩, h1, h2⟩
  have HIN := hide hin
  have HB1 := hide (h1.below HB0.out (by omega))
  have hk0 := HK0.out.but h1 (by omega)
  have HK0 := hide hk0
  have HK1 := hide (HK1.out.but h1 (by omega))
  have HK2 := hide (HK2.out.but h1 (by omega))
  have HK3 := hide h2
  obtain ⟨⟨r0, r1, r2, r3, r4, r5⟩, ⟨y0, y1, y2, y3, y4, y5⟩⟩ := hk0.six
  clear hk0 h1 h2 hin
  go_wp2_with fail
  clear r0 r1 r2 r3 r4 r5 y0 y1 y2 y3 y4 y5
  have HB2 : Hid (Below w.heap.size w ((((((w1.setCell ⟨w.heap.size, 0, none⟩ (.int .i64 6)).setCell ⟨w.heap.size, 1, none⟩ (.bool false)).setCell ⟨w.heap.size, 2, none⟩ (.int .i64 0)).setCell ⟨w.heap.size, 3, none⟩ (.string ⟨#[]⟩)).setCell ⟨w.heap.size, 4, none⟩ (.slice none 0 0)).setCell ⟨w.heap.size, 5, none⟩ (.slice ia 1 ic))) := hide (st6_below HB1.out (Nat.le_refl _) (.int .i64 6) (.bool false) (.int .i64 0) (.string ⟨#[]⟩) (.slice none 0 0) (.slice ia 1 ic))
  have HK0 : Hid (Blk ((((((w1.setCell ⟨w.heap.size, 0, none⟩ (.int .i64 6)).setCell ⟨w.heap.size, 1, none⟩ (.bool false)).setCell ⟨w.heap.size, 2, none⟩ (.int .i64 0)).setCell ⟨w.heap.size, 3, none⟩ (.string ⟨#[]⟩)).setCell ⟨w.heap.size, 4, none⟩ (.slice none 0 0)).setCell ⟨w.heap.size, 5, none⟩ (.slice ia 1 ic)) w.heap.size #[.int .i64 6, .bool false, .int .i64 0, .string ⟨#[]⟩, .slice none 0 0, .slice ia 1 ic] 25) := hide (st6_blk HK0.out _ _ _ _ _ _)
  have HK1 : Hid (Blk ((((((w1.setCell ⟨w.heap.size, 0, none⟩ (.int .i64 6)).setCell ⟨w.heap.size, 1, none⟩ (.bool false)).setCell ⟨w.heap.size, 2, none⟩ (.int .i64 0)).setCell ⟨w.heap.size, 3, none⟩ (.string ⟨#[]⟩)).setCell ⟨w.heap.size, 4, none⟩ (.slice none 0 0)).setCell ⟨w.heap.size, 5, none⟩ (.slice ia 1 ic)) (w.heap.size + 1) #[.int .i64 0] 3) := hide ((st6_block (w := w1) (b := w.heap.size) (k := w.heap.size + 1) (by omega) _ _ _ _ _ _).trans HK1.out)
  have HK2 : Hid (Blk ((((((w1.setCell ⟨w.heap.size, 0, none⟩ (.int .i64 6)).setCell ⟨w.heap.size, 1, none⟩ (.bool false)).setCell ⟨w.heap.size, 2, none⟩ (.int .i64 0)).setCell ⟨w.heap.size, 3, none⟩ (.string ⟨#[]⟩)).setCell ⟨w.heap.size, 4, none⟩ (.slice none 0 0)).setCell ⟨w.heap.size, 5, none⟩ (.slice ia 1 ic)) (w.heap.size + 1 + 1) #[.int .i64 0] 33) := hide ((st6_block (w := w1) (b := w.heap.size) (k := w.heap.size + 1 + 1) (by omega) _ _ _ _ _ _).trans HK2.out)
  have HK3 : Hid (RAt ((((((w1.setCell ⟨w.heap.size, 0, none⟩ (.int .i64 6)).setCell ⟨w.heap.size, 1, none⟩ (.bool false)).setCell ⟨w.heap.size, 2, none⟩ (.int .i64 0)).setCell ⟨w.heap.size, 3, none⟩ (.string ⟨#[]⟩)).setCell ⟨w.heap.size, 4, none⟩ (.slice none 0 0)).setCell ⟨w.heap.size, 5, none⟩ (.slice ia 1 ic)) (w.heap.size + 1 + 1 + 1) s e2 (65536 - 1 - 1)) := hide (st6_rat HK3.out (by omega) _ _ _ _ _ _)
  have HIN : Hid (OIn (fresh (w.heap.size + 1 + 1 + 1 + 1) ((((((w1.setCell ⟨w.heap.size, 0, none⟩ (.int .i64 6)).setCell ⟨w.heap.size, 1, none⟩ (.bool false)).setCell ⟨w.heap.size, 2, none⟩ (.int .i64 0)).setCell ⟨w.heap.size, 3, none⟩ (.string ⟨#[]⟩)).setCell ⟨w.heap.size, 4, none⟩ (.slice none 0 0)).setCell ⟨w.heap.size, 5, none⟩ (.slice ia 1 ic))) arrP (arrT x) none 0 ia ic) := hide (HIN.out.sub (only_sub (Nat.le_of_eq (st6_size _ _ _ _ _ _ _ _).symm) fun k h1 _ => ⟨by omega, st6_block (w := w1) (b := w.heap.size) (k := k) (by omega) _ _ _ _ _ _⟩))
  generalize ((((((w1.setCell ⟨w.heap.size, 0, none⟩ (.int .i64 6)).setCell ⟨w.heap.size, 1, none⟩ (.bool false)).setCell ⟨w.heap.size, 2, none⟩ (.int .i64 0)).setCell ⟨w.heap.size, 3, none⟩ (.string ⟨#[]⟩)).setCell ⟨w.heap.size, 4, none⟩ (.slice none 0 0)).setCell ⟨w.heap.size, 5, none⟩ (.slice ia 1 ic)) = w2 at HB2 HK0 HK1 HK2 HK3 HIN ⊢
  obtain ⟨⟨q0, q1, q2, q3, q4, q5⟩, ⟨y0, y1, y2, y3, y4, y5⟩⟩ := HK0.out.six
  have n0 := HK1.out.cell 0
  have n1 := HK1.out.frozen 0
  have m0 := HK2.out.cell 0
  have m1 := HK2.out.frozen 0
  obtain ⟨⟨c0, c1, c2⟩, z0, z1, z2⟩ := HK3.out.three
  simp at n0 m0
  go_region
  have HB6 : Hid (Below w.heap.size w ((((((w2.setCell ⟨w.heap.size, 0, none⟩ (.int .i64 6)).setCell ⟨w.heap.size, 1, none⟩ (.bool false)).setCell ⟨w.heap.size, 2, none⟩ (.int .i64 0)).setCell ⟨w.heap.size, 3, none⟩ (.string ⟨#[]⟩)).setCell ⟨w.heap.size, 4, none⟩ (.slice none 0 0)).setCell ⟨w.heap.size, 5, none⟩ (.slice ia 1 ic))) := hide (st6_below HB2.out (b := w.heap.size) (Nat.le_refl _) (.int .i64 6) (.bool false) (.int .i64 0) (.string ⟨#[]⟩) (.slice none 0 0) (.slice ia 1 ic))
  have HK6 : Hid (Blk ((((((w2.setCell ⟨w.heap.size, 0, none⟩ (.int .i64 6)).setCell ⟨w.heap.size, 1, none⟩ (.bool false)).setCell ⟨w.heap.size, 2, none⟩ (.int .i64 0)).setCell ⟨w.heap.size, 3, none⟩ (.string ⟨#[]⟩)).setCell ⟨w.heap.size, 4, none⟩ (.slice none 0 0)).setCell ⟨w.heap.size, 5, none⟩ (.slice ia 1 ic)) w.heap.size #[.int .i64 6, .bool false, .int .i64 0, .string ⟨#[]⟩, .slice none 0 0, .slice ia 1 ic] 25) := hide (st6_blk HK0.out (.int .i64 6) (.bool false) (.int .i64 0) (.string ⟨#[]⟩) (.slice none 0 0) (.slice ia 1 ic))
  have HK7 : Hid (Blk ((((((w2.setCell ⟨w.heap.size, 0, none⟩ (.int .i64 6)).setCell ⟨w.heap.size, 1, none⟩ (.bool false)).setCell ⟨w.heap.size, 2, none⟩ (.int .i64 0)).setCell ⟨w.heap.size, 3, none⟩ (.string ⟨#[]⟩)).setCell ⟨w.heap.size, 4, none⟩ (.slice none 0 0)).setCell ⟨w.heap.size, 5, none⟩ (.slice ia 1 ic)) (w.heap.size + 1) #[.int .i64 0] 3) := hide ((st6_block (w := w2) (b := w.heap.size) (k := w.heap.size + 1) (by omega) _ _ _ _ _ _).trans HK1.out)
  have HK8 : Hid (Blk ((((((w2.setCell ⟨w.heap.size, 0, none⟩ (.int .i64 6)).setCell ⟨w.heap.size, 1, none⟩ (.bool false)).setCell ⟨w.heap.size, 2, none⟩ (.int .i64 0)).setCell ⟨w.heap.size, 3, none⟩ (.string ⟨#[]⟩)).setCell ⟨w.heap.size, 4, none⟩ (.slice none 0 0)).setCell ⟨w.heap.size, 5, none⟩ (.slice ia 1 ic)) (w.heap.size + 1 + 1) #[.int .i64 0] 33) := hide ((st6_block (w := w2) (b := w.heap.size) (k := w.heap.size + 1 + 1) (by omega) _ _ _ _ _ _).trans HK2.out)
  have HI6 : Hid (OIn (fresh (w.heap.size + 1 + 1 + 1 + 1) ((((((w2.setCell ⟨w.heap.size, 0, none⟩ (.int .i64 6)).setCell ⟨w.heap.size, 1, none⟩ (.bool false)).setCell ⟨w.heap.size, 2, none⟩ (.int .i64 0)).setCell ⟨w.heap.size, 3, none⟩ (.string ⟨#[]⟩)).setCell ⟨w.heap.size, 4, none⟩ (.slice none 0 0)).setCell ⟨w.heap.size, 5, none⟩ (.slice ia 1 ic))) arrP (arrT x) none 0 ia ic) := hide (HIN.out.sub (only_sub (Nat.le_of_eq (st6_size _ _ _ _ _ _ _ _).symm) fun k h1 _ => ⟨by omega, st6_block (w := w2) (b := w.heap.size) (k := k) (by omega) _ _ _ _ _ _⟩))
  generalize ((((((w2.setCell ⟨w.heap.size, 0, none⟩ (.int .i64 6)).setCell ⟨w.heap.size, 1, none⟩ (.bool false)).setCell ⟨w.heap.size, 2, none⟩ (.int .i64 0)).setCell ⟨w.heap.size, 3, none⟩ (.string ⟨#[]⟩)).setCell ⟨w.heap.size, 4, none⟩ (.slice none 0 0)).setCell ⟨w.heap.size, 5, none⟩ (.slice ia 1 ic)) = wA at HB6 HK6 HK7 HK8 HI6 ⊢
  clear HB2 HK0 HK1 HK2 HK3 HIN HB1 q0 q1 q2 q3 q4 q5 y0 y1 y2 y3 y4 y5 n0 n1 m0 m1 c0 c1 c2 z0 z1 z2
  have FB : Hid (Below w.heap.size w ((wA.setCell ⟨w.heap.size + 1, 0, none⟩ (.int .i64 e2)).setCell ⟨w.heap.size + 1 + 1, 0, none⟩ (.int .i64 0))) := hide ((HB6.out.setCell (p := ⟨w.heap.size + 1, 0, none⟩) (by simp) (.int .i64 e2)).setCell (p := ⟨w.heap.size + 1 + 1, 0, none⟩) (by simp; omega) (.int .i64 0))
  have F0 := hide ((HK6.out.other (b' := w.heap.size + 1) (by omega) 0 (.int .i64 e2)).other (b' := w.heap.size + 1 + 1) (by omega) 0 (.int .i64 0))
  have F1 : Hid (Blk ((wA.setCell ⟨w.heap.size + 1, 0, none⟩ (.int .i64 e2)).setCell ⟨w.heap.size + 1 + 1, 0, none⟩ (.int .i64 0)) (w.heap.size + 1) #[.int .i64 e2] 3) := hide ((HK7.out.set 0 (.int .i64 e2)).other (b' := w.heap.size + 1 + 1) (by omega) 0 (.int .i64 0))
  have F2 : Hid (Blk ((wA.setCell ⟨w.heap.size + 1, 0, none⟩ (.int .i64 e2)).setCell ⟨w.heap.size + 1 + 1, 0, none⟩ (.int .i64 0)) (w.heap.size + 1 + 1) #[.int .i64 0] 33) := hide ((HK8.out.other (b' := w.heap.size + 1) (by omega) 0 (.int .i64 e2)).set 0 (.int .i64 0))
  have FI : Hid (OIn (fresh w.heap.size ((wA.setCell ⟨w.heap.size + 1, 0, none⟩ (.int .i64 e2)).setCell ⟨w.heap.size + 1 + 1, 0, none⟩ (.int .i64 0))) arrP (arrT x) none 0 ia ic) := hide (HI6.out.sub (only_sub (by simp [World.setCell]) fun k h1 _ => ⟨by omega, by rw [Below.heap_setCell _ _ _ _ (by simp; omega), Below.heap_setCell _ _ _ _ (by simp; omega)]⟩))
  generalize (wA.setCell ⟨w.heap.size + 1, 0, none⟩ (.int .i64 e2)).setCell ⟨w.heap.size + 1 + 1, 0, none⟩ (.int .i64 0) = wB at FB F0 F1 F2 FI ⊢
  have FB : Hid (Below w.heap.size w wB.drew) := hide FB.out.drew
  have F0 : Hid (Blk wB.drew w.heap.size #[.int .i64 6, .bool false, .int .i64 0, .string ⟨#[]⟩, .slice none 0 0, .slice ia 1 ic] 25) := hide F0.out
  have F1 : Hid (Blk wB.drew (w.heap.size + 1) #[.int .i64 e2] 3) := hide F1.out
  have F2 : Hid (Blk wB.drew (w.heap.size + 1 + 1) #[.int .i64 0] 33) := hide F2.out
  have FI : Hid (OIn (fresh w.heap.size wB.drew) arrP (arrT x) none 0 ia ic) := hide (FI.out.sub (only_sub (Nat.le_refl _) fun k h1 _ => ⟨h1, rfl⟩))
  generalize wB.drew = wf at FB F0 F1 F2 FI ⊢
  go_wp2_with fail
  refine leaves_cons (f := 31) (args := #[.pointer (some ⟨w.heap.size, 0, none⟩), .pointer (some ⟨w.heap.size + 1, 0, none⟩), .pointer (some ⟨w.heap.size + 1 + 1, 0, none⟩)]) (by simp) (by simp [go_sem]) ?_
  refine (catch_idle _ _ _ _).mono ?_
  rintro e u' w'' ⟨rfl, rfl, rfl⟩
  obtain ⟨⟨f0, f1, f2, f3, f4, f5⟩, _⟩ := F0.out.six
  have g0 : w''.cell? ⟨w.heap.size + 1, 0, none⟩ = some (.int .i64 e2) := F1.out.cell 0
  have g1 : w''.cell? ⟨w.heap.size + 1 + 1, 0, none⟩ = some (.int .i64 0) := F2.out.cell 0
  refine ⟨.tuple #[ov arrP none 0 ia 1 ic, .int .i64 e2, .int .i64 0], ?_, ⟨ia, ic, rfl, FI.out⟩, FB.out⟩
  simp [results, Tryz.results20, go_sem, f0, f1, f2, f3, f4, f5, g0, g1]
end Go.Proofs.YtcgoklacjniemaaGreatDoor
