/-
  What the landed look, Check and Points answer.
-/
import Derived.Test.YtjacjdglklcijaaDoorG10Ro
import Derived.Defers
import Derived.Recover
import Derived.Laws.Pointers
import Derived.BigRegion
namespace Go.Proofs.YtjacjdglklcijaaDoor
open Go.RowKit Go.Deep
set_option linter.unusedVariables false
set_option linter.unusedSimpArgs false

theorem ol_any (b : Nat) (s : ByteArray) (w : World) (h : RA w b s 0) (hs : s.size ≤ 1000000) : Calls Tryd.prog 28 #[.pointer (some ⟨b, 0, none⟩)] w (OlR b w (shV s.data.toList)) := by
  have hl : s.data.toList.length = s.size := (Lib.size_eq s).symm
  unfold shV
  rw [hl]
  by_cases h0 : s.size = 0
  · rw [if_pos h0]
    obtain rfl : s = ⟨#[]⟩ := by
      cases s with | mk d =>
        have : d.size = 0 := h0
        rw [Array.eq_empty_of_size_eq_zero this]
    exact ol_empty b w h
  rw [if_neg h0]
  by_cases h1 : s.size < 10
  · rw [if_pos h1]; exact ol_short b s w h (by omega) h1
  rw [if_neg h1]
  by_cases h2 : n2 s.data.toList 0 = 65535
  · rw [if_pos h2]; exact ol_comp b s w h hs (by omega) h2
  rw [if_neg h2]
  by_cases h3 : 1 ≤ n2 s.data.toList 0 ∧ n2 s.data.toList 0 ≤ 32767
  · rw [if_pos h3]; exact ol_simp b s w h hs (by omega) h3.1 h3.2
  · rw [if_neg h3]; exact ol_no b s w h hs (by omega) h2 h3
abbrev zov : Value := .agg zo
def LkR (w : World) (R : Option (Nat × List Nat)) (e : Ending) (w' : World) : Prop := match R with
  | some (p, ps) => ∃ v, e = .returned (.tuple #[.agg #[.int .i64 (p : Int), v], .int .i64 0]) ∧ IRow w' w.heap.size v (ints ps) ∧ Below w.heap.size w w'
  | none => e = .returned (.tuple #[.agg #[.int .i64 0, .slice none 0 0], .int .i64 100]) ∧ Below w.heap.size w w'
theorem catch_idle (p q : Addr) (w : World) :
    CallsD Tryd.prog 27 #[.pointer (some p), .pointer (some q)] .returning w fun e u' w' => e = .returned (.tuple #[]) ∧ u' = .returning ∧ w' = w := by
  refine callsD_of_wpS Tryd.func27 rfl fun c₀ cs hu => ?_
  apply wpS_seq
  apply wpS_region
  simp [wpOpsS, go_sem, recoverD, hu, Tryd.ntmps27, Exit.thenS]
  refine wpS_cond (t := false) (by simp [Act.eval, Array.replicate]) ?_
  simp only [Bool.false_eq_true, if_false]
  refine wpS_of_wp (wp_skip ?_)
  cases c₀
  simp_all [bodyPostS, results, Tryd.results27]
theorem catch_thrown (B : Nat) (w : World) (x0 x1 y0 : Value) (u : TypeId) (pv : Value) (hk : Blk w B #[x0, x1] 49) (he : Blk w (B + 1) #[y0] 25) :
    CallsD Tryd.prog 27 #[.pointer (some ⟨B, 0, none⟩), .pointer (some ⟨B + 1, 0, none⟩)] (.panicking [{ v := .iface u pv, recovered := false }]) w fun e u' w' =>
      e = .returned (.tuple #[]) ∧ u' = .panicking [{ v := .iface u pv, recovered := true }] ∧ w' = (((w.setCell ⟨B, 0, none⟩ (.int .i64 0)).setCell ⟨B, 1, none⟩ (.slice none 0 0)).setCell ⟨B + 1, 0, none⟩ (.int .i64 100)) := by
  obtain ⟨⟨r0, r1⟩, z0, z1⟩ := hk.two
  have c1 := he.cell 0
  have f1 := he.frozen 0
  simp at c1
  refine callsD_of_wpS Tryd.func27 rfl fun c₀ cs hu => ?_
  apply wpS_seq
  apply wpS_region
  simp [wpOpsS, go_sem, recoverD, hu, Tryd.ntmps27, Exit.thenS]
  refine wpS_cond (t := true) (by simp [Act.eval, Array.replicate]) ?_
  simp only [if_true]
  apply wpS_region
  simp [wpOpsS, go_sem, r0, r1, z0, z1, c1, f1, bodyPostS, results, Tryd.results27]
theorem lk_begin (s : ByteArray) (w : World) : ∃ V, V = ((w.alloc (.cells zo 49)).alloc (.cells #[.int .i64 0] 25)).alloc (.cells #[.string s, .int .i64 0] 55) ∧ Blk V w.heap.size zo 49 ∧ Blk V (w.heap.size + 1) #[.int .i64 0] 25 ∧ RA V (w.heap.size + 1 + 1) s 0 ∧ Below w.heap.size w V ∧ V.heap.size = w.heap.size + 3 := by
  have hal : ∀ (u : World) (o : Obj), Below u.heap.size u (u.alloc o) := fun u o => (Below.refl _ _).alloc (Nat.le_refl _) _
  refine ⟨_, rfl, ((Blk.new w _ _).below (hal _ _)).below (hal _ _), ?_, ?_, (((Below.refl _ _).alloc (Nat.le_refl _) _).alloc (by simp) _).alloc (by simp; omega) _, by simp⟩
  · have := Blk.new (w.alloc (.cells zo 49)) #[.int .i64 0] 25
    rw [show (w.alloc (.cells zo 49)).heap.size = w.heap.size + 1 by simp] at this
    exact this.below (hal _ _)
  · have := Blk.new ((w.alloc (.cells zo 49)).alloc (.cells #[.int .i64 0] 25)) #[.string s, .int .i64 0] 55
    rwa [show ((w.alloc (.cells zo 49)).alloc (.cells #[.int .i64 0] 25)).heap.size = w.heap.size + 1 + 1 by simp] at this
set_option maxRecDepth 8000 in
set_option maxHeartbeats 4000000 in
theorem look_any (s : ByteArray) (w : World) (hs : s.size ≤ 1000000) : Calls Tryd.prog 23 #[.string s] w (LkR w (shV s.data.toList)) := by
  have hmf : ∀ (fn : Fn) (first cap : Array Value) (w : World), (Instr.makeFunc fn first cap).run Tryd.prog w = .ok (.func fn first cap) w := fun _ _ _ _ => rfl
  have CO := hide (fun b w (h : RA w b s 0) => ol_any b s w h hs)
  obtain ⟨V, hV, k0, k1, k2, k3, k4⟩ := lk_begin s w
  have HK0 := hide k0
  have HK1 := hide k1
  have HK2 := hide k2
  have HB := hide k3
  clear k0 k1 k2 k3
  generalize shV s.data.toList = R at CO ⊢
  go_enter_defers Tryd.func23, Tryd.ntmps23
  go_wp2_with fail
  rw [← hV]
  clear hV
  have C := CO.out _ _ HK2.out
  rcases R with _ | ⟨p, ps⟩
  · refine C.mono ?_
    rintro e w1 ⟨rfl, h1⟩
    have HB1 := hide (h1.below HB.out (by omega))
    have HK0 := hide (h1.blk HK0.out (by omega))
    have HK1 := hide (h1.blk HK1.out (by omega))
    clear h1 HB
    refine leaves_cons (f := 27) (args := #[.pointer (some ⟨w.heap.size, 0, none⟩), .pointer (some ⟨w.heap.size + 1, 0, none⟩)]) (by simp) (by simp [go_sem]) ?_
    refine (catch_thrown w.heap.size w1 _ _ _ _ _ HK0.out HK1.out).mono ?_
    rintro e u' w'' ⟨rfl, rfl, rfl⟩
    have FB := hide (((HB1.out.setCell (p := ⟨w.heap.size, 0, none⟩) (by simp) (.int .i64 0)).setCell (p := ⟨w.heap.size, 1, none⟩) (by simp) (.slice none 0 0)).setCell (p := ⟨w.heap.size + 1, 0, none⟩) (by simp) (.int .i64 100))
    have F0 := hide (((HK0.out.set 0 (.int .i64 0)).set 1 (.slice none 0 0)).other (b' := w.heap.size + 1) (by omega) 0 (.int .i64 100))
    have F1 := hide (Blk.set (Blk.other (Blk.other HK1.out (b' := w.heap.size) (by omega) 0 (.int .i64 0)) (b' := w.heap.size) (by omega) 1 (.slice none 0 0)) 0 (.int .i64 100))
    generalize (((w1.setCell ⟨w.heap.size, 0, none⟩ (.int .i64 0)).setCell ⟨w.heap.size, 1, none⟩ (.slice none 0 0)).setCell ⟨w.heap.size + 1, 0, none⟩ (.int .i64 100)) = wf at FB F0 F1 ⊢
    have f0 : wf.cell? ⟨w.heap.size, 0, none⟩ = some (.int .i64 0) := by simpa using F0.out.cell 0
    have f1 : wf.cell? ⟨w.heap.size, 1, none⟩ = some (.slice none 0 0) := by simpa using F0.out.cell 1
    have g0 : wf.cell? ⟨w.heap.size + 1, 0, none⟩ = some (.int .i64 100) := by simpa using F1.out.cell 0
    show Leaves _ _ _ _ [] (settle (.panicking [{ v := .iface 25 (.int .i64 100), recovered := true }])) wf
    rw [show settle (.panicking [{ v := .iface 25 (.int .i64 100), recovered := true }]) = .returning from rfl]
    refine ⟨.tuple #[.agg #[.int .i64 0, .slice none 0 0], .int .i64 100], ?_, rfl, FB.out⟩
    simp [results, Tryd.results23, go_sem, f0, f1, g0]
  · refine C.mono ?_
    rintro e w1 ⟨v, rfl, q1, h1⟩
    obtain ⟨ad, cap, hv, _⟩ := q1.lst
    subst hv
    have HB1 := hide (h1.below HB.out (by omega))
    have HK0 := hide (h1.blk HK0.out (by omega))
    have HK1 := hide (h1.blk HK1.out (by omega))
    have HQ := hide (q1.lower (show w.heap.size + 2 ≤ V.heap.size by omega))
    generalize (ints ps).length = LN at HQ ⊢
    obtain ⟨⟨r0, r1⟩, z0, z1⟩ := HK0.out.two
    have c1 : w1.cell? ⟨w.heap.size + 1, 0, none⟩ = some (.int .i64 0) := by simpa using HK1.out.cell 0
    have f1 := HK1.out.frozen 0
    clear h1 HB q1 C
    go_wp2_with fail
    clear r0 r1 z0 z1 c1 f1
    have FB := hide (((HB1.out.setCell (p := ⟨w.heap.size, 0, none⟩) (by simp) (.int .i64 (p : Int))).setCell (p := ⟨w.heap.size, 1, none⟩) (by simp) (.slice ad LN cap)).setCell (p := ⟨w.heap.size + 1, 0, none⟩) (by simp) (.int .i64 0))
    have F0 := hide (((HK0.out.set 0 (.int .i64 (p : Int))).set 1 (.slice ad LN cap)).other (b' := w.heap.size + 1) (by omega) 0 (.int .i64 0))
    have F1 := hide (Blk.set (Blk.other (Blk.other HK1.out (b' := w.heap.size) (by omega) 0 (.int .i64 (p : Int))) (b' := w.heap.size) (by omega) 1 (.slice ad LN cap)) 0 (.int .i64 0))
    have FQ := hide (irow_set (o := 0) (irow_set (o := 1) (irow_set (o := 0) HQ.out (show w.heap.size < w.heap.size + 2 by omega) (.int .i64 (p : Int))) (show w.heap.size < w.heap.size + 2 by omega) (.slice ad LN cap)) (show w.heap.size + 1 < w.heap.size + 2 by omega) (.int .i64 0))
    generalize (((w1.setCell ⟨w.heap.size, 0, none⟩ (.int .i64 (p : Int))).setCell ⟨w.heap.size, 1, none⟩ (.slice ad LN cap)).setCell ⟨w.heap.size + 1, 0, none⟩ (.int .i64 0)) = wf at FB F0 F1 FQ ⊢
    have f0 : wf.cell? ⟨w.heap.size, 0, none⟩ = some (.int .i64 (p : Int)) := by simpa using F0.out.cell 0
    have f1 : wf.cell? ⟨w.heap.size, 1, none⟩ = some (.slice ad LN cap) := by simpa using F0.out.cell 1
    have g0 : wf.cell? ⟨w.heap.size + 1, 0, none⟩ = some (.int .i64 0) := by simpa using F1.out.cell 0
    refine leaves_cons (f := 27) (args := #[.pointer (some ⟨w.heap.size, 0, none⟩), .pointer (some ⟨w.heap.size + 1, 0, none⟩)]) (by simp) (by simp [go_sem]) ?_
    refine (catch_idle _ _ _).mono ?_
    rintro e u' w'' ⟨rfl, rfl, hw⟩
    subst w''
    refine ⟨.tuple #[.agg #[.int .i64 (p : Int), .slice ad LN cap], .int .i64 0], ?_, ⟨_, rfl, FQ.out.lower (by omega), FB.out⟩⟩
    simp [results, Tryd.results23, go_sem, f0, f1, g0]
end Go.Proofs.YtjacjdglklcijaaDoor
