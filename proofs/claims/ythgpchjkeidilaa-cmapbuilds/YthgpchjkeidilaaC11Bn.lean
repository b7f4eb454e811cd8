/-
  What cmap's narrow answers, and Build where it is not wide.
-/
import Derived.Test.YthgpchjkeidilaaC11Nt
import Derived.Test.YthgpchjkeidilaaC11Wk
namespace Go.Proofs.Ythgpchjkeidilaa
open Go.RowKit Go.Deep
set_option linter.unusedVariables false

def narB (cs : List Ch) : Bool := decide (cs.length ≤ 4095) && (decide (cs.length = 0) || decide ((cs.getD (cs.length - 1) c0).l < 65535))
set_option maxRecDepth 8000 in
theorem nar_any (a : Option Addr) (cs : List Ch) (len cap : Nat) (w : World) (hl : cs.length = len) (hm : len ≤ 1073741824) (hL : CLst w a cs) :
    Calls Try.prog 11 #[.slice a len cap] w fun e w' => e = .returned (.bool (narB cs)) ∧ w' = w := by
  unfold narB
  rw [hl]
  have hm' : (len : Int) ≤ 1073741824 := by omega
  by_cases h1 : len ≤ 4095
  case neg =>
    rw [decide_eq_false h1]
    have t1 : ¬ (len : Int) ≤ 4095 := by omega
    clear hL hl hm
    go_enter Try.func11, Try.ntmps11
    go_wp2_with fail
    go_ret
    exact ⟨rfl, rfl⟩
  rw [decide_eq_true h1]
  have t1 : (len : Int) ≤ 4095 := by omega
  by_cases h2 : len = 0
  · subst h2
    clear hL hl hm
    go_enter Try.func11, Try.ntmps11
    go_wp2_with fail
    go_ret
    exact ⟨rfl, rfl⟩
  rw [decide_eq_false h2]
  obtain ⟨m, rfl⟩ : ∃ m, len = m + 1 := ⟨len - 1, by omega⟩
  rcases hL with hz | ⟨b, o, rfl, hb, hc⟩
  · rw [hz] at hl; simp at hl
  obtain ⟨_, z1, _⟩ := hc m (by omega)
  rw [show m + 1 - 1 = m by omega]
  generalize (cs.getD m c0).l = l at *
  have t2 : (m : Int) ≤ 4094 := by omega
  have t1b : (m : Int) + 1 ≤ 4095 := by omega
  have t1c : ((m : Int) + 1 == 0) = false := by simp; omega
  have t3 : (0 : Int) ≤ (m : Int) := by omega
  simp only [Bool.true_and, Bool.false_or]
  clear hl hm hc h1 h2 t1 hm'
  by_cases hd : l < 65535
  all_goals
    first | rw [decide_eq_true hd] | rw [decide_eq_false hd]
    go_enter Try.func11, Try.ntmps11
    go_wp2_with fail
    go_ret
    exact ⟨rfl, rfl⟩
theorem build_nar (a : Option Addr) (cs : List Ch) (len cap : Nat) (w : World) (hl : cs.length = len) (hL : CLst w a cs) (hg : gooB cs 4096 = true) (hn : narB cs = true) :
    Calls Try.prog 5 #[.slice a len cap, .bool false] w fun e w' => e = .returned (.tuple #[.string ⟨(naT cs).toArray⟩, .int .i64 0]) ∧ Below w.heap.size w w' := by
  have hm := (good_small hg (by omega)).1
  have C := hide (good_any a cs len cap 4096 w hl (by omega) ⟨by omega, by omega⟩ hL)
  rw [hg] at C
  have CN := hide (fun (w1 : World) (h : Below w.heap.size w w1) => nar_any a cs len cap w1 hl (by omega) (hL.below h))
  rw [hn] at CN
  have CW := hide (fun (w1 : World) (h : Below w.heap.size w w1) => narrow_any a cs len cap w1 hl (by omega) (good_small hg (by omega)).2 (hL.below h))
  obtain ⟨TT, hTT⟩ : ∃ TT, (⟨(naT cs).toArray⟩ : ByteArray) = TT := ⟨_, rfl⟩
  rw [hTT]
  have HTT := hide hTT
  clear hl hm hL hg hTT hn
  go_enter Try.func5, Try.ntmps5
  go_wp2_with fail
  refine C.out.mono ?_
  rintro e w1 ⟨rfl, h1⟩
  have H1 := hide h1
  clear h1
  go_wp2_with fail
  refine (CN.out _ H1.out).mono ?_
  rintro e w2 ⟨rfl, hw⟩
  replace hw := hw.symm
  subst hw
  go_wp2_with fail
  refine (CW.out _ H1.out).mono ?_
  rintro e w3 ⟨v, B, rfl, hb3, hk3⟩
  have hcv := BRow.text hb3
  rw [HTT.out] at hcv
  have H3 := hide (H1.out.trans (hk3.mono H1.out.size))
  clear hb3 hk3
  go_wp2_with fail
  go_ret2
  exact ⟨rfl, H3.out⟩
theorem build_not (a : Option Addr) (cs : List Ch) (len cap : Nat) (w : World) (hl : cs.length = len) (hL : CLst w a cs) (hg : gooB cs 4096 = true) (hn : narB cs = false) :
    Calls Try.prog 5 #[.slice a len cap, .bool false] w fun e w' => e = .returned (.tuple #[.string ⟨#[]⟩, .int .i64 110]) ∧ Below w.heap.size w w' := by
  have hm := (good_small hg (by omega)).1
  have C := hide (good_any a cs len cap 4096 w hl (by omega) ⟨by omega, by omega⟩ hL)
  rw [hg] at C
  have CN := hide (fun (w1 : World) (h : Below w.heap.size w w1) => nar_any a cs len cap w1 hl (by omega) (hL.below h))
  rw [hn] at CN
  clear hl hm hL hg hn
  go_enter Try.func5, Try.ntmps5
  go_wp2_with fail
  refine C.out.mono ?_
  rintro e w1 ⟨rfl, h1⟩
  have H1 := hide h1
  clear h1
  go_wp2_with fail
  refine (CN.out _ H1.out).mono ?_
  rintro e w2 ⟨rfl, hw⟩
  replace hw := hw.symm
  subst hw
  go_wp2_with fail
  go_ret2
  exact ⟨rfl, H1.out⟩
end Go.Proofs.Ythgpchjkeidilaa
