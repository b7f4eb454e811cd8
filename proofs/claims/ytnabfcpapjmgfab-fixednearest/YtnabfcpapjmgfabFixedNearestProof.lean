/- Proved: for every three ints FixedNearest returns true and leaves its arguments as they were (no condition). -/
import Derived.Test.YtnabfcpapjmgfabRows
import Derived.Test.YtnabfcpapjmgfabBase
import Derived.Test.YtnabfcpapjmgfabScale
import Derived.WalkKit
import Derived.ProofKit
import Derived.OpenShut
namespace Go.Proofs.Ytnabfcpapjmgfab.fixedNearest
open Go.ChangeShapes Go.WideShapes Go.ChangeAt Go.RowKit
set_option linter.unusedVariables false      -- a walk need not use every 'w<i>' (that an integer argument fits its kind)

theorem own : ownKnob Try.prog.godebug = none := by kernel_rfl

theorem grown_drewN (w : World) (n : Nat) : Grown w (w.drewN n) := by
  induction n with
  | zero => exact Grown.refl _
  | succ n ih => exact Grown.drew ih

/- the product is the divisor times the quotient, and the rest -/
theorem dv_eq (a b c : Int) (h : dvB a b c = true) : a * b = c * dvQ a b c + dvR a b c := by
  have h0 := h
  unfold dvB at h0
  simp only [decide_eq_true_eq] at h0
  obtain ⟨k, rfl⟩ : ∃ k : Nat, c = k := ⟨c.toNat, by omega⟩
  have hm := mag_int a b
  have hd := Nat.div_add_mod (mag a b) k
  have hdi : (k : Int) * ((mag a b / k : Nat) : Int) + ((mag a b % k : Nat) : Int) = ((mag a b : Nat) : Int) := by
    rw [← Int.natCast_mul, ← Int.natCast_add, hd]
  unfold dvQ dvR
  rw [h, Int.toNat_natCast, ← hm]
  simp only [if_true]
  rw [← hdi]
  generalize mag a b % k = t at *
  generalize mag a b / k = q at *
  cases signB a b
  · simp only [Bool.false_eq_true, if_false]
    by_cases ht : t = 0
    · subst ht; simp; rw [Int.mul_neg]
    · simp only [if_neg ht]
      rw [Int.mul_sub, Int.mul_neg, Int.mul_one]
      omega
  · simp

/- what the law asks of both, for numbers up to a million -/
structure Near (a b c x y P X Y : Int) : Prop where
  hp : scB a b c = true
  hq : flB a b c = true
  hx : scV a b c = x
  hy : flV a b c = y
  eP : wrap64 (a * b) = P
  eX : wrap64 (c * x) = X
  eY : wrap64 (c * y) = Y
  p1 : -1000000000000 ≤ P
  p2 : P ≤ 1000000000000
  y1 : 0 ≤ P - Y
  y2 : P - Y < c
  x1 : -c ≤ 2 * (P - X)
  x2 : 2 * (P - X) < c
  xy : x = y ∨ x = y + 1
  b1 : -1099511627776 ≤ y
  b2 : y ≤ 1099511627776

theorem mul_bd (a b : Int) (ha : -1000000 ≤ a) (ha2 : a ≤ 1000000) (hb : -1000000 ≤ b) (hb2 : b ≤ 1000000) : mag a b ≤ 1000000000000 := by
  unfold mag
  exact Nat.mul_le_mul (show a.natAbs ≤ 1000000 by omega) (show b.natAbs ≤ 1000000 by omega)

theorem near (a b c : Int) (ha : -1000000 ≤ a) (ha2 : a ≤ 1000000) (hb : -1000000 ≤ b) (hb2 : b ≤ 1000000) (hc : 1 ≤ c) (hc2 : c ≤ 1000000) :
    ∃ x y P X Y, Near a b c x y P X Y := by
  have hm := mul_bd a b ha ha2 hb hb2
  have hmi := mag_int a b
  have hP : -1000000000000 ≤ a * b ∧ a * b ≤ 1000000000000 := by
    rw [← hmi]; split <;> omega
  have hB : dvB a b c = true := by
    unfold dvB
    have := Nat.div_le_self (mag a b) c.toNat
    simp only [decide_eq_true_eq]
    exact ⟨hc, by omega⟩
  have he := dv_eq a b c hB
  obtain ⟨_, _, _, r1, r2⟩ := dv_bd a b c hB
  have hsQ : scQ a b c = if c - dvR a b c ≤ dvR a b c then dvQ a b c + 1 else dvQ a b c := rfl
  have hsc : scB a b c = (dvB a b c && inB (scQ a b c)) := rfl
  have hfl : flB a b c = (dvB a b c && inB (dvQ a b c)) := rfl
  have hscv : scV a b c = if dvB a b c then tolV (scQ a b c) else 0 := rfl
  have hflv : flV a b c = if dvB a b c then tolV (dvQ a b c) else 0 := rfl
  rw [hB] at hsc hfl hscv hflv
  rw [if_pos rfl] at hscv hflv
  rw [Bool.true_and] at hsc hfl
  -- the quotient is no greater than the product
  have hy : -1000000000001 ≤ dvQ a b c ∧ dvQ a b c ≤ 1000000000000 := by
    unfold dvQ
    rw [hB]
    have := Nat.div_le_self (mag a b) c.toNat
    generalize mag a b / c.toNat = q at *
    simp only [if_true]
    split
    · omega
    · split <;> omega
  generalize scQ a b c = x at *
  generalize dvQ a b c = y at *
  generalize dvR a b c = r at *
  have hxy : (x = y + 1 ∧ c - r ≤ r) ∨ (x = y ∧ r < c - r) := by
    rw [hsQ]; split <;> omega
  have hin : inB x = true := inB_t (by omega) (by omega)
  have hin2 : inB y = true := inB_t (by omega) (by omega)
  have hcx : (x = y + 1 ∧ c * x = c * y + c ∧ c - r ≤ r) ∨ (x = y ∧ c * x = c * y ∧ r < c - r) := by
    rcases hxy with ⟨h1, h2⟩ | ⟨h1, h2⟩
    · exact Or.inl ⟨h1, by rw [h1, Int.mul_add, Int.mul_one], h2⟩
    · exact Or.inr ⟨h1, by rw [h1], h2⟩
  exact ⟨x, y, a * b, c * x, c * y, {
    hp := by rw [hsc, hin], hq := by rw [hfl, hin2], hx := by rw [hscv, tolV_t hin], hy := by rw [hflv, tolV_t hin2]
    eP := IntWalk.wrap64_in _ ⟨by omega, by omega⟩, eX := IntWalk.wrap64_in _ ⟨by omega, by omega⟩, eY := IntWalk.wrap64_in _ ⟨by omega, by omega⟩
    p1 := hP.1, p2 := hP.2, y1 := by omega, y2 := by omega, x1 := by omega, x2 := by omega, xy := by omega, b1 := by omega, b2 := by omega }⟩

/-! ### STEP 1: THE WALK: the Go text returns true. 'Grown w w'': the world has at most new blocks (Derived/RowKit3.lean). Part the cases AHEAD of 'go_enter' where a test parts the walk; take each callee by a contract of your own. -/
theorem walk (a0 : Int) (a1 : Int) (a2 : Int) (w0 : (Lit.int .i64 a0).wf = true) (w1 : (Lit.int .i64 a1).wf = true) (w2 : (Lit.int .i64 a2).wf = true) (w : World) :
    Calls Try.prog 4 #[.int .i64 a0, .int .i64 a1, .int .i64 a2] w fun e w' => e = .returned (.bool true) ∧ Grown w w' := by
  have bd0 := bounds_i64 w0
  have bd1 := bounds_i64 w1
  have bd2 := bounds_i64 w2
  clear w0 w1 w2
  by_cases hin : (-1000000 ≤ a0 ∧ a0 ≤ 1000000) ∧ (-1000000 ≤ a1 ∧ a1 ≤ 1000000) ∧ (1 ≤ a2 ∧ a2 ≤ 1000000)
  · obtain ⟨⟨i1, i2⟩, ⟨i3, i4⟩, ⟨i5, i6⟩⟩ := hin
    obtain ⟨x, y, P, X, Y, N⟩ := near a0 a1 a2 i1 i2 i3 i4 i5 i6
    have c1 := fun w => scale_any a0 a1 a2 bd0.1 bd0.2 bd1.1 bd1.2 bd2.2 w
    have c2 := fun w => floor_any a0 a1 a2 bd0.1 bd0.2 bd1.1 bd1.2 bd2.2 w
    obtain ⟨hp, hq, hx, hy, eP, eX, eY, p1, p2, y1, y2, x1, x2, xy, b1, b2⟩ := N
    rw [hp, hx] at c1
    rw [hq, hy] at c2
    have C1 := hide c1
    have C2 := hide c2
    have t1 : decide (a0 < -1000000) = false := by simp; omega
    have t2 : decide (1000000 < a0) = false := by simp; omega
    have t3 : decide (a1 < -1000000) = false := by simp; omega
    have t4 : decide (1000000 < a1) = false := by simp; omega
    have t5 : decide (a2 < 1) = false := by simp; omega
    have t6 : decide (1000000 < a2) = false := by simp; omega
    have t7 : decide (2 * (P - X) < -a2) = false := by simp; omega
    have t8 : decide (a2 ≤ 2 * (P - X)) = false := by simp; omega
    have t9 : decide (P - Y < 0) = false := by simp; omega
    have t10 : decide (a2 ≤ P - Y) = false := by simp; omega
    have t11 : ((x == y) = true) ∨ ((x == y) = false ∧ (x == y + 1) = true) := by
      rcases xy with h | h
      · exact Or.inl (by rw [beq_iff_eq]; exact h)
      · exact Or.inr ⟨by rw [beq_eq_false_iff_ne]; omega, by rw [beq_iff_eq]; exact h⟩
    clear c1 c2 xy hp hq hx hy
    rcases t11 with k1 | ⟨k1, k2⟩
    all_goals
      go_enter Try.func4, Try.ntmps4
      go_wp2_with (first | (go_at_call 10; refine (unhide C1 _).mono ?_; rintro e w' ⟨rfl, n, rfl⟩) | (go_at_call 11; refine (unhide C2 _).mono ?_; rintro e w' ⟨rfl, m, rfl⟩) | (go_at_call 8; refine (wakes_any _).mono ?_; rintro e w' ⟨rfl, rfl⟩))
      go_ret
      exact ⟨rfl, grown_drewN _ _⟩
  · have out : (decide (a0 < -1000000) = true) ∨ (decide (a0 < -1000000) = false ∧ decide (1000000 < a0) = true) ∨
        (decide (a0 < -1000000) = false ∧ decide (1000000 < a0) = false ∧ decide (a1 < -1000000) = true) ∨
        (decide (a0 < -1000000) = false ∧ decide (1000000 < a0) = false ∧ decide (a1 < -1000000) = false ∧ decide (1000000 < a1) = true) ∨
        (decide (a0 < -1000000) = false ∧ decide (1000000 < a0) = false ∧ decide (a1 < -1000000) = false ∧ decide (1000000 < a1) = false ∧ decide (a2 < 1) = true) ∨
        (decide (a0 < -1000000) = false ∧ decide (1000000 < a0) = false ∧ decide (a1 < -1000000) = false ∧ decide (1000000 < a1) = false ∧ decide (a2 < 1) = false ∧ decide (1000000 < a2) = true) := by
      simp only [decide_eq_true_eq, decide_eq_false_iff_not]; omega
    clear hin bd0 bd1 bd2
    rcases out with t1 | ⟨t1, t2⟩ | ⟨t1, t2, t3⟩ | ⟨t1, t2, t3, t4⟩ | ⟨t1, t2, t3, t4, t5⟩ | ⟨t1, t2, t3, t4, t5, t6⟩
    all_goals
      go_enter Try.func4, Try.ntmps4
      go_wp2_with (go_at_call 8; refine (wakes_any _).mono ?_; rintro e w' ⟨rfl, rfl⟩)
      go_ret
      exact ⟨rfl, Grown.refl _⟩

/-! ### THE ROW's STEP: WRITTEN OUT: LEAVE IT -/
set_option maxRecDepth 100000 in
theorem lifted (os : Os) (started : os.Started) (H : Type) (enc : TypeId × Value → H) :
    ReturnsInHanded {} Try.checked os 4 .any (Rows.fixedNearestSpec.pre6 enc Try.prog Try.f4 Rows.fixedNearestRow.domain false) (Rows.fixedNearestSpec.post enc Try.prog Try.f4 false true false false) := by
  refine returnsInHanded_of_change (C := Try.checked) own started (by kernel_rfl) Try.func4
    (ChangeSpec.witness6 (enc := enc) (C := Try.checked) false ⟨#[], #[.int .i64 0, .int .i64 0, .int .i64 0], []⟩ 8 (by kernel_rfl) (by kernel_rfl) (by kernel_rfl) (by kernel_rfl)) ?_
  intro W base args ds gs before hval0 hW hcnd _
  have hval : ∀ (j : Nat) t v, Try.f4.params[j]? = some t → args[j]? = some v → Value.okWide Try.prog W .any base t v := hval0
  have hW' := hW
  obtain ⟨p, q, hA0, hV, rfl, hfz, hnd⟩ := hW
  have hA : DataW.TrodAll enc Try.prog W 0 (fun _ => true) true Try.f4.params.toList args.toList ds p := hA0
  rw [Try.params4] at hA hval
  obtain ⟨v0, vs0, d0, ds0, p0, q0, hargs, rfl, rfl, h0, r0⟩ := trodAll_cons hA
  obtain ⟨v1, vs1, d1, ds1, p1, q1, rfl, rfl, rfl, h1, r1⟩ := trodAll_cons r0
  obtain ⟨v2, vs2, d2, ds2, p2, q2, rfl, rfl, rfl, h2, r2⟩ := trodAll_cons r1
  obtain ⟨rfl, rfl, rfl⟩ := trodAll_nil r2
  obtain rfl : args = #[v0, v1, v2] := by cases args; simp_all
  obtain ⟨rfl, rfl⟩ := trodVars_none hV
  obtain ⟨a0, rfl, rfl, rfl, w0⟩ := open_int Try.underlying3 (hval 0 3 v0 rfl rfl) h0
  obtain ⟨a1, rfl, rfl, rfl, w1⟩ := open_int Try.underlying3 (hval 1 3 v1 rfl rfl) h1
  obtain ⟨a2, rfl, rfl, rfl, w2⟩ := open_int Try.underlying3 (hval 2 3 v2 rfl rfl) h2
  clear hA0 hval0
  simp only [List.append_nil] at hW'
  refine (walk a0 a1 a2 w0 w1 w2 W).mono fun e W' ⟨he, hg⟩ => ?_
  subst he
  exact ⟨_, rfl, post_of_same (pa := []) (pv := []) hW' (fun _ _ _ => (trodAll_cons_mk (shut_bool Try.underlying4 _) trodAll_mk0)) (fun sp _ => (trodAll_cons_mk (shut_int Try.underlying3 w0) (trodAll_cons_mk (shut_int Try.underlying3 w1) (trodAll_cons_mk (shut_int Try.underlying3 w2) trodAll_mk0)))) (fun _ _ => rfl) rfl
    (hg.frame _) hg.2.1 (ok_one (by kernel_rfl) rfl (okWide_bool_mk Try.underlying4 _))⟩

theorem over : Rows.fixedNearestRow.holds Try.pinned (OpenSpec.ofChange Rows.fixedNearestSpec) :=
  OpenClaim.holds_of_wide 4 Try.f4 rfl rfl rfl rfl rfl rfl rfl ⟨rfl, rfl, rfl, rfl, rfl⟩ rfl rfl rfl rfl rfl (by kernel_rfl) Try.func4 (by kernel_rfl)
    (of_decide_eq_true (by kernel_rfl)) (by unfold Func.isWrapper; first | (rw [if_pos (by decide +kernel)]; kernel_rfl) | (rw [if_neg (by decide +kernel)]; exact ⟨rfl, rfl⟩))
    (fun os started H enc _ => lifted os started H enc)

/-- ████ THE STATEMENT ████ -/
theorem proved : Rows.FixedNearestSaid :=
  over
end Go.Proofs.Ytnabfcpapjmgfab.fixedNearest
namespace Go.Proofs.Ytnabfcpapjmgfab
theorem fixedNearest_holds : Rows.FixedNearestSaid := fixedNearest.proved
#print axioms fixedNearest_holds
end Go.Proofs.Ytnabfcpapjmgfab
