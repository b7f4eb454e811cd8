/- Proved: for every two ints FixedBack returns true and leaves its arguments as they were (no condition). -/
import Derived.Test.YtnabfcpapjmgfabRows
import Derived.Test.YtnabfcpapjmgfabBase
import Derived.WalkKit
import Derived.ProofKit
import Derived.OpenShut
namespace Go.Proofs.Ytnabfcpapjmgfab.fixedBack
open Go.ChangeShapes Go.WideShapes Go.ChangeAt Go.RowKit
set_option linter.unusedVariables false      -- a walk need not use every 'w<i>' (that an integer argument fits its kind)

theorem own : ownKnob Try.prog.godebug = none := by kernel_rfl

theorem add_t (a b : Int) (w : World) (h : sumB a b (a + b) = true) :
    Calls Try.prog 6 #[.int .i64 a, .int .i64 b] w fun e w' => e = .returned (.tuple #[.int .i64 (a + b), .bool true]) ∧ w' = w := by
  have h0 := add_any a b w
  have hs : sumV a b (a + b) = a + b := by
    unfold sumB at h; simp only [Bool.and_eq_true] at h
    unfold sumV; rw [if_pos (by simp [h]), tolV_t h.2]
  rw [h, hs] at h0; exact h0
theorem add_f (a b : Int) (w : World) (h : sumB a b (a + b) = false) :
    Calls Try.prog 6 #[.int .i64 a, .int .i64 b] w fun e w' => e = .returned (.tuple #[.int .i64 0, .bool false]) ∧ w' = w := by
  have h0 := add_any a b w
  have hs : sumV a b (a + b) = 0 := by
    unfold sumB at h
    unfold sumV
    cases ha : (inB a && inB b)
    · rfl
    · rw [ha] at h; rw [if_pos rfl, tolV_f (by simpa using h)]
  rw [h, hs] at h0; exact h0
theorem sumB_comm (a b : Int) : sumB b a (b + a) = sumB a b (a + b) := by
  unfold sumB; rw [Bool.and_comm (inB b), Int.add_comm b a]
theorem sub_t (a b x : Int) (w : World) (ha : inB x = true) (hb : inB b = true) (h : inB (x - b) = true) :
    Calls Try.prog 9 #[.int .i64 x, .int .i64 b] w fun e w' => e = .returned (.tuple #[.int .i64 (x - b), .bool true]) ∧ w' = w := by
  have h0 := sub_any x b w
  rw [show sumV x b (x - b) = x - b by simp [sumV, ha, hb, tolV_t h], show sumB x b (x - b) = true by simp [sumB, ha, hb, h]] at h0
  exact h0

/-! ### STEP 1: THE WALK: the Go text returns true. 'Grown w w'': the world has at most new blocks (Derived/RowKit3.lean). Part the cases AHEAD of 'go_enter' where a test parts the walk; take each callee by a contract of your own. -/
theorem walk (a0 : Int) (a1 : Int) (w0 : (Lit.int .i64 a0).wf = true) (w1 : (Lit.int .i64 a1).wf = true) (w : World) :
    Calls Try.prog 3 #[.int .i64 a0, .int .i64 a1] w fun e w' => e = .returned (.bool true) ∧ Grown w w' := by
  cases h : sumB a0 a1 (a0 + a1)
  · have h' : sumB a1 a0 (a1 + a0) = false := by rw [sumB_comm]; exact h
    have c1 := fun w => add_f a0 a1 w h
    have c2 := fun w => add_f a1 a0 w h'
    have C1 := hide c1
    have C2 := hide c2
    clear c1 c2 h h'
    go_enter Try.func3, Try.ntmps3
    go_wp2_with fail
    refine (unhide C1 _).mono ?_
    rintro e w' ⟨rfl, rfl⟩
    go_wp2_with fail
    refine (unhide C2 _).mono ?_
    rintro e w' ⟨rfl, rfl⟩
    go_wp2_with (go_at_call 8; refine (wakes_any _).mono ?_; rintro e w' ⟨rfl, rfl⟩)
    go_ret
    exact ⟨rfl, Grown.refl _⟩
  · have h' : sumB a1 a0 (a1 + a0) = true := by rw [sumB_comm]; exact h
    have c1 := fun w => add_t a0 a1 w h
    have c2 := fun w => add_t a1 a0 w h'
    unfold sumB at h; simp only [Bool.and_eq_true] at h
    obtain ⟨⟨ha, hb⟩, hs⟩ := h
    have ba := inB_bd ha
    have bb := inB_bd hb
    have bs := inB_bd hs
    have e1 : a0 + a1 - a1 = a0 := by omega
    have hd : inB (a0 + a1 - a1) = true := by rw [e1]; exact ha
    have c3 := fun w => sub_t a0 a1 (a0 + a1) w hs hb hd
    rw [e1] at c3
    rw [Int.add_comm a1 a0] at c2
    have e2 : a0 + a1 - a0 = a1 := by omega
    clear e1 hd h'
    generalize a0 + a1 = s at *
    have e3 : (s - a0 == a1) = true := beq_iff_eq.2 e2
    clear e2
    have C1 := hide c1
    have C2 := hide c2
    have C3 := hide c3
    clear c1 c2 c3
    go_enter Try.func3, Try.ntmps3
    go_wp2_with fail
    refine (unhide C1 _).mono ?_
    rintro e w' ⟨rfl, rfl⟩
    go_wp2_with fail
    refine (unhide C2 _).mono ?_
    rintro e w' ⟨rfl, rfl⟩
    go_wp2_with (first | (go_at_call 7; refine (in_any _ _).mono ?_; rintro e w' ⟨rfl, rfl⟩) | (go_at_call 9; refine (unhide C3 _).mono ?_; rintro e w' ⟨rfl, rfl⟩) | (go_at_call 8; refine (wakes_any _).mono ?_; rintro e w' ⟨rfl, rfl⟩))
    go_ret
    exact ⟨rfl, Grown.refl _⟩

/-! ### THE ROW's STEP: WRITTEN OUT: LEAVE IT -/
set_option maxRecDepth 100000 in
theorem lifted (os : Os) (started : os.Started) (H : Type) (enc : TypeId × Value → H) :
    ReturnsInHanded {} Try.checked os 3 .any (Rows.fixedBackSpec.pre6 enc Try.prog Try.f3 Rows.fixedBackRow.domain false) (Rows.fixedBackSpec.post enc Try.prog Try.f3 false true false false) := by
  refine returnsInHanded_of_change (C := Try.checked) own started (by kernel_rfl) Try.func3
    (ChangeSpec.witness6 (enc := enc) (C := Try.checked) false ⟨#[], #[.int .i64 0, .int .i64 0], []⟩ 8 (by kernel_rfl) (by kernel_rfl) (by kernel_rfl) (by kernel_rfl)) ?_
  intro W base args ds gs before hval0 hW hcnd _
  have hval : ∀ (j : Nat) t v, Try.f3.params[j]? = some t → args[j]? = some v → Value.okWide Try.prog W .any base t v := hval0
  have hW' := hW
  obtain ⟨p, q, hA0, hV, rfl, hfz, hnd⟩ := hW
  have hA : DataW.TrodAll enc Try.prog W 0 (fun _ => true) true Try.f3.params.toList args.toList ds p := hA0
  rw [Try.params3] at hA hval
  obtain ⟨v0, vs0, d0, ds0, p0, q0, hargs, rfl, rfl, h0, r0⟩ := trodAll_cons hA
  obtain ⟨v1, vs1, d1, ds1, p1, q1, rfl, rfl, rfl, h1, r1⟩ := trodAll_cons r0
  obtain ⟨rfl, rfl, rfl⟩ := trodAll_nil r1
  obtain rfl : args = #[v0, v1] := by cases args; simp_all
  obtain ⟨rfl, rfl⟩ := trodVars_none hV
  obtain ⟨a0, rfl, rfl, rfl, w0⟩ := open_int Try.underlying3 (hval 0 3 v0 rfl rfl) h0
  obtain ⟨a1, rfl, rfl, rfl, w1⟩ := open_int Try.underlying3 (hval 1 3 v1 rfl rfl) h1
  clear hA0 hval0
  simp only [List.append_nil] at hW'
  refine (walk a0 a1 w0 w1 W).mono fun e W' ⟨he, hg⟩ => ?_
  subst he
  exact ⟨_, rfl, post_of_same (pa := []) (pv := []) hW' (fun _ _ _ => (trodAll_cons_mk (shut_bool Try.underlying4 _) trodAll_mk0)) (fun sp _ => (trodAll_cons_mk (shut_int Try.underlying3 w0) (trodAll_cons_mk (shut_int Try.underlying3 w1) trodAll_mk0))) (fun _ _ => rfl) rfl
    (hg.frame _) hg.2.1 (ok_one (by kernel_rfl) rfl (okWide_bool_mk Try.underlying4 _))⟩

theorem over : Rows.fixedBackRow.holds Try.pinned (OpenSpec.ofChange Rows.fixedBackSpec) :=
  OpenClaim.holds_of_wide 3 Try.f3 rfl rfl rfl rfl rfl rfl rfl ⟨rfl, rfl, rfl, rfl, rfl⟩ rfl rfl rfl rfl rfl (by kernel_rfl) Try.func3 (by kernel_rfl)
    (of_decide_eq_true (by kernel_rfl)) (by unfold Func.isWrapper; first | (rw [if_pos (by decide +kernel)]; kernel_rfl) | (rw [if_neg (by decide +kernel)]; exact ⟨rfl, rfl⟩))
    (fun os started H enc _ => lifted os started H enc)

/-- ████ THE STATEMENT ████ -/
theorem proved : Rows.FixedBackSaid :=
  over
end Go.Proofs.Ytnabfcpapjmgfab.fixedBack
namespace Go.Proofs.Ytnabfcpapjmgfab
theorem fixedBack_holds : Rows.FixedBackSaid := fixedBack.proved
#print axioms fixedBack_holds
end Go.Proofs.Ytnabfcpapjmgfab
