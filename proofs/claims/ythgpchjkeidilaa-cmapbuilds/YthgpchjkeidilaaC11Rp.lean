/-
  What the reference's power and Search answer; a string joined to a string.
-/
import Derived.Test.YthgpchjkeidilaaC11J0
import Derived.Test.YthgpchjkeidilaaC11Rb
import Derived.Test.YthgpchjkeidilaaC11Bn
namespace Go.Proofs.Ythgpchjkeidilaa
open Go.RowKit Go.Deep
set_option linter.unusedVariables false
set_option linter.unusedSimpArgs false

theorem exp_uniq {n q : Nat} (h1 : 1 ≤ n) (h2 : n ≤ 5001) (h3 : 2 ^ q ≤ n) (h4 : n < 2 * 2 ^ q) : expV n = q ∧ powV n = 2 ^ q := by
  obtain ⟨_, _, p1, p2, _⟩ := exp_bd n h1 h2
  have e : expV n = q := by
    unfold powV at p1 p2
    rcases Nat.lt_trichotomy (expV n) q with h | h | h
    · have := Nat.pow_le_pow_right (show 0 < 2 by omega) (show expV n + 1 ≤ q by omega)
      rw [Nat.pow_succ] at this
      omega
    · exact h
    · have := Nat.pow_le_pow_right (show 0 < 2 by omega) (show q + 1 ≤ expV n by omega)
      rw [Nat.pow_succ] at this
      omega
  exact ⟨e, by unfold powV; rw [e]⟩
set_option maxHeartbeats 1000000 in
theorem rpower_any (n : Nat) (w : World) (h1 : 1 ≤ n) (h2 : n ≤ 4097) :
    Calls Try.prog 27 #[.int .i64 (n : Int)] w fun e w' => e = .returned (.tuple #[.int .i64 (powV n : Int), .int .i64 (expV n : Int)]) ∧ w' = w := by
  have hn1 : (1 : Int) ≤ (n : Int) := by omega
  have hn2 : (n : Int) ≤ 4097 := by omega
  go_enter Try.func27, Try.ntmps27
  go_wp2_with fail
  go_loop [4, 5] (fun vp vq => ∃ (p q : Nat), vp = .int .i64 (p : Int) ∧ vq = .int .i64 (q : Int) ∧ Hid (p = 2 ^ q ∧ p ≤ n ∧ q ≤ p ∧ 1 ≤ p)) (fun vp _ => n - (intOf vp).toNat)
  case atStart => exact ⟨1, 0, rfl, rfl, hide ⟨rfl, h1, by omega, by omega⟩⟩
  case round =>
    obtain ⟨p, q, rfl, rfl, HV⟩ := hrel
    obtain ⟨hp, hpn, hq, hp1⟩ := HV.out
    have HP := hide hp
    clear HV hp
    have p0 : (0 : Int) ≤ (p : Int) := by omega
    have p1 : (p : Int) ≤ 4097 := by omega
    have q0 : (0 : Int) ≤ (q : Int) := by omega
    have q1 : (q : Int) ≤ 4097 := by omega
    by_cases hlt : 2 * p ≤ n
    · have hlt' : 2 * (p : Int) ≤ (n : Int) := by omega
      have HP2 := hide (show 2 * p = 2 ^ (q + 1) by rw [Nat.pow_succ, ← HP.out]; omega)
      go_wp2_with fail
      go_round
      case rel => exact ⟨2 * p, q + 1, by go_num, by go_num, hide ⟨HP2.out, hlt, by omega, by omega⟩⟩
      case measure => simp [intOf]; omega
    · have hlt' : ¬ 2 * (p : Int) ≤ (n : Int) := by omega
      have e := exp_uniq (n := n) (q := q) h1 (by omega) (by rw [← HP.out]; exact hpn) (by rw [← HP.out]; omega)
      rw [← HP.out] at e
      have E := hide e
      clear e hlt
      go_wp2_with fail
      go_ret2
      exact ⟨by rw [E.out.1, E.out.2]; rfl, rfl⟩
def sr2 (n : Nat) : List UInt8 := t2 (2 * (powV n : Int)) ++ t2 (expV n : Int) ++ t2 (2 * ((n : Int) - (powV n : Int)))
theorem cat11 (a b : ByteArray) (n m : Nat) (ha : a.size = n) (hb : b.size = m) (h : n + m ≤ 1000000) : ∃ P : ByteArray, (∀ w, (Op.stringOp .add a b).run Try.prog w = .ok (.string P) w) ∧ P.data.toList = a.data.toList ++ b.data.toList ∧ P.size = n + m :=
  ⟨a ++ b, fun w => run_string_add_sum w a b (by omega), by rw [ByteArray.data_append, Array.toList_append], by rw [ByteArray.size_append, ha, hb]⟩
theorem bs_eq2 {P : ByteArray} {l : List UInt8} (h : P.data.toList = l) : P = ⟨l.toArray⟩ := by
  cases P with | mk d => cases d with | mk t => simp at h; rw [h]
set_option maxHeartbeats 1000000 in
theorem rsearch_any (n : Nat) (w : World) (h1 : 1 ≤ n) (h2 : n ≤ 4097) :
    Calls Try.prog 16 #[.int .i64 (n : Int), .int .i64 2] w fun e w' => e = .returned (.string ⟨(sr2 n).toArray⟩) ∧ Below w.heap.size w w' := by
  obtain ⟨hb, he5, hp1, hp2, hp3⟩ := exp_bd n h1 (by omega)
  have CP := hide (rpower_any n w h1 h2)
  have hs : sr2 n = t2 (2 * (powV n : Int)) ++ t2 (expV n : Int) ++ t2 (2 * ((n : Int) - (powV n : Int))) := rfl
  generalize powV n = p at CP hp1 hp2 hp3 hs
  generalize expV n = q at CP he5 hs
  have C1 := hide (fun w => rtwo_any (2 * (p : Int)) w (by omega) (by omega))
  have C2 := hide (fun w => rtwo_any (q : Int) w (by omega) (by omega))
  have C3 := hide (fun w => rtwo_any (2 * ((n : Int) - (p : Int))) w (by omega) (by omega))
  obtain ⟨P1, a1, x1, s1⟩ := cat11 (⟨(t2 (2 * (p : Int))).toArray⟩ : ByteArray) (⟨(t2 (q : Int)).toArray⟩ : ByteArray) 2 2 rfl rfl (by omega)
  obtain ⟨P2, a2, x2, s2⟩ := cat11 P1 (⟨(t2 (2 * ((n : Int) - (p : Int)))).toArray⟩ : ByteArray) 4 2 s1 rfl (by omega)
  have hT : P2 = ⟨(sr2 n).toArray⟩ := bs_eq2 (by rw [x2, x1, hs])
  have HT := hide hT
  generalize (⟨(t2 (2 * (p : Int))).toArray⟩ : ByteArray) = T1 at C1 a1 x1
  generalize (⟨(t2 (q : Int)).toArray⟩ : ByteArray) = T2 at C2 a1 x1
  generalize (⟨(t2 (2 * ((n : Int) - (p : Int)))).toArray⟩ : ByteArray) = T3 at C3 a2 x2
  have hn1 : (1 : Int) ≤ (n : Int) := by omega
  have hn2 : (n : Int) ≤ 4097 := by omega
  have p1' : (1 : Int) ≤ (p : Int) := by omega
  have p2' : (p : Int) ≤ (n : Int) := by omega
  clear hs hb he5 hp1 hp2 hp3 h1 h2 x1 x2 s1 s2 hT
  go_enter Try.func16, Try.ntmps16
  go_wp2_with fail
  refine CP.out.mono ?_
  rintro e wy ⟨rfl, hy⟩
  subst wy
  go_wp2_with fail
  refine (C1.out _).mono ?_
  rintro e w1 ⟨rfl, hb1⟩
  have B1 := hide hb1
  clear hb1
  go_wp2_with fail
  refine (C2.out _).mono ?_
  rintro e w2 ⟨rfl, hb2⟩
  have B2 := hide (below_t5 B1.out hb2)
  clear hb2
  go_wp2_with fail
  refine (C3.out _).mono ?_
  rintro e w3 ⟨rfl, hb3⟩
  have B3 := hide (below_t5 B2.out hb3)
  clear hb3
  go_wp2_with fail
  go_ret
  exact ⟨by rw [← HT.out]; rfl, B3.out⟩
theorem step_append_e2 {P : Program} (w : World) {ops : Array Oper} {o : Oper} {a : Act} {K : Act → World → Prop} {Q : Exit → Act → World → Prop} {E : Prop} (hgd : o.guard = none) (s x : Operand) (t tn : TypeId)
    (ho : o.op = .call { callee := .builtin .append, args := #[s, x], argTypes := #[t, tn] }) (vs vx : Value) (hs : a.eval s = vs) (hx : a.eval x = vx)
    {G : Value → World → Prop} (hr : ∃ v' w', (Builtin.append_ #[t, tn] o.type #[vs, vx]).run P w = .ok v' w' ∧ G v' w') (h : ∀ v' w', G v' w' → K (a.put o.dst v') w') :
    if Region.wanted o (yielded ops a.tmps) = true then Oper.wp P o a w K Q else E := by
  rw [if_pos (by simp [Region.wanted, hgd])]
  obtain ⟨v', w', hr, hG⟩ := hr
  exact Lib.wp_append_run w s x t tn ho vs vx hs hx v' w' hr (h v' w' hG)
theorem take_c (cs : List Ch) (k : Nat) (h : k < cs.length) : cs.take (k + 1) = cs.take k ++ [cs.getD k c0] := by
  rw [List.take_succ_eq_append_getElem h, List.getD_eq_getElem?_getD, List.getElem?_eq_getElem h]; rfl
theorem g3_flat (cs : List Ch) : (cs.flatMap g3).length = 12 * cs.length := by
  induction cs with
  | nil => rfl
  | cons a l ih => rw [List.flatMap_cons, List.length_append, ih, List.length_cons]; show 12 + _ = _; omega
end Go.Proofs.Ythgpchjkeidilaa
