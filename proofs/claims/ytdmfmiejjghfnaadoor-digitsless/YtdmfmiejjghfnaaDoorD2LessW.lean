/-
  The walk of DigitsLess.
-/
import Derived.Test.YtdmfmiejjghfnaaDoorD2Less
import Derived.Test.YtdmfmiejjghfnaaDoorD2Wakes
import Derived.Laws.Concat
namespace Go.Proofs.YtdmfmiejjghfnaaDoor
open Go.RowKit Go.Lib

theorem less_out (W a b : Int) (w : World) (hg : Glo w) (h : W < 0 ∨ 9999999 < W ∨ a < 0 ∨ 99999999 < a ∨ b < a ∨ 99999999 < b) :
    Calls Tryd.prog 8 #[.int .i64 W, .int .i64 a, .int .i64 b] w fun e w' => e = .returned (.bool true) ∧ Below w.heap.size w w' := by
  have CW := hide (wakes_any w hg)
  clear hg
  have way : (decide (W < 0) = true) ∨ (decide (W < 0) = false ∧ decide (9999999 < W) = true) ∨ (decide (W < 0) = false ∧ decide (9999999 < W) = false ∧ decide (a < 0) = true) ∨
      (decide (W < 0) = false ∧ decide (9999999 < W) = false ∧ decide (a < 0) = false ∧ decide (99999999 < a) = true) ∨
      (decide (W < 0) = false ∧ decide (9999999 < W) = false ∧ decide (a < 0) = false ∧ decide (99999999 < a) = false ∧ decide (b < a) = true) ∨
      (decide (W < 0) = false ∧ decide (9999999 < W) = false ∧ decide (a < 0) = false ∧ decide (99999999 < a) = false ∧ decide (b < a) = false ∧ decide (99999999 < b) = true) := by
    simp only [decide_eq_true_eq, decide_eq_false_iff_not]
    omega
  clear h
  rcases way with g1 | ⟨g1, g2⟩ | ⟨g1, g2, g3⟩ | ⟨g1, g2, g3, g4⟩ | ⟨g1, g2, g3, g4, g5⟩ | ⟨g1, g2, g3, g4, g5, g6⟩
  all_goals
    go_enter Tryd.func8, Tryd.ntmps8
    go_wp2_with (go_at_call 11; refine CW.out.mono ?_; rintro e w1 ⟨rfl, hb1⟩)
    go_ret
    exact ⟨rfl, hb1⟩

set_option maxHeartbeats 2000000 in
theorem less_in (W a b : Nat) (w : World) (h1 : (W : Int) ≤ 9999999) (h2 : (a : Int) ≤ 99999999) (h3 : (a : Int) ≤ (b : Int)) (h4 : (b : Int) ≤ 99999999)
    (E D1 M0 M1 : Nat → ByteArray) (D2 M2 : Nat → Nat → ByteArray) (xa xb ya yb : Int)
    (r1 : ∀ w n, (Op.stringOp .add (E n) ⟨#[46]⟩).run Tryd.prog w = .ok (.string (D1 n)) w)
    (r2 : ∀ w n m, (Op.stringOp .add (D1 n) (E m)).run Tryd.prog w = .ok (.string (D2 n m)) w)
    (r3 : ∀ w n, (Op.stringOp .add ⟨#[45]⟩ (E n)).run Tryd.prog w = .ok (.string (M0 n)) w)
    (r4 : ∀ w n, (Op.stringOp .add (M0 n) ⟨#[46]⟩).run Tryd.prog w = .ok (.string (M1 n)) w)
    (r5 : ∀ w n m, (Op.stringOp .add (M1 n) (E m)).run Tryd.prog w = .ok (.string (M2 n m)) w)
    (cE : ∀ (n : Nat) w1, Below w.heap.size w w1 → (n : Int) ≤ 99999999 → Calls Tryd.prog 16 #[.int .i64 n] w1 fun e w' => e = .returned (.string (E n)) ∧ Below w1.heap.size w1 w')
    (XN : ByteArray → Int) (f1 : XN (D2 W a) = xa) (f2 : XN (D2 W b) = xb) (f3 : XN (M2 W a) = ya) (f4 : XN (M2 W b) = yb)
    (cN : ∀ t w1, Below w.heap.size w w1 → (t = D2 W a ∨ t = D2 W b ∨ t = M2 W a ∨ t = M2 W b) → Calls Tryd.prog 14 #[.string t] w1 fun e w' => e = .returned (.tuple #[.int .i64 (XN t), .int .i64 0]) ∧ Below w1.heap.size w1 w')
    (cW : ∀ w1, Below w.heap.size w w1 → Calls Tryd.prog 11 #[] w1 fun e w' => e = .returned (.bool true) ∧ Below w1.heap.size w1 w')
    (k1 : xa ≤ xb) (k2 : yb ≤ ya) (k3 : (W : Int) * 65536 ≤ xa) (k4 : xb ≤ (W : Int) * 65536 + 65536) :
    Calls Tryd.prog 8 #[.int .i64 W, .int .i64 a, .int .i64 b] w fun e w' => e = .returned (.bool true) ∧ Below w.heap.size w w' := by
  have CE := hide cE
  have CN := hide cN
  have CW := hide cW
  have hb := Below.refl w.heap.size w
  have b1 : (W : Int) ≤ 99999999 := by omega
  have g1 : decide ((W : Int) < 0) = false := by simp
  have g2 : decide ((9999999 : Int) < (W : Int)) = false := by simp; omega
  have g3 : decide ((a : Int) < 0) = false := by simp
  have g4 : decide ((99999999 : Int) < (a : Int)) = false := by simp; omega
  have g5 : decide ((b : Int) < (a : Int)) = false := by simp; omega
  have g6 : decide ((99999999 : Int) < (b : Int)) = false := by simp; omega
  have hb4 := h4
  clear cE cN cW
  go_enter Tryd.func8, Tryd.ntmps8
  go_wp2_with (first
    | (go_at_call 16; refine (CE.out _ _ hb (by assumption)).mono ?_; rintro e w' ⟨rfl, hb'⟩; replace hb := hb.trans (hb'.mono hb.size); clear hb')
    | (go_at_call 14; refine (CN.out _ _ hb (by first | exact Or.inl rfl | exact Or.inr (Or.inl rfl) | exact Or.inr (Or.inr (Or.inl rfl)) | exact Or.inr (Or.inr (Or.inr rfl)))).mono ?_; rintro e w' ⟨rfl, hb'⟩; replace hb := hb.trans (hb'.mono hb.size); clear hb'; first | rw [f1] | rw [f2] | rw [f3] | rw [f4])
    | (go_at_call 11; refine (CW.out _ hb).mono ?_; rintro e w' ⟨rfl, hb'⟩; replace hb := hb.trans (hb'.mono hb.size); clear hb'))
  go_ret
  exact ⟨rfl, hb⟩

theorem toList_mk (l : List UInt8) : (⟨l.toArray⟩ : ByteArray).data.toList = l := rfl
theorem less_in2 (W a b : Nat) (w : World) (hg : Glo w) (h1 : (W : Int) ≤ 9999999) (h2 : (a : Int) ≤ 99999999) (h3 : (a : Int) ≤ (b : Int)) (h4 : (b : Int) ≤ 99999999)
    (L : Nat → List UInt8) (hl : ∀ n, (L n).length = 8) (xa xb ya yb : Int)
    (cE : ∀ (n : Nat) w1, (n : Int) ≤ 99999999 → Calls Tryd.prog 16 #[.int .i64 n] w1 fun e w' => e = .returned (.string ⟨(L n).toArray⟩) ∧ Below w1.heap.size w1 w')
    (na1 : nearP (L W ++ [46] ++ L a) = (xa, 0)) (nb1 : nearP (L W ++ [46] ++ L b) = (xb, 0)) (na2 : nearP ([45] ++ L W ++ [46] ++ L a) = (ya, 0)) (nb2 : nearP ([45] ++ L W ++ [46] ++ L b) = (yb, 0))
    (k1 : xa ≤ xb) (k2 : yb ≤ ya) (k3 : (W : Int) * 65536 ≤ xa) (k4 : xb ≤ (W : Int) * 65536 + 65536) :
    Calls Tryd.prog 8 #[.int .i64 W, .int .i64 a, .int .i64 b] w fun e w' => e = .returned (.bool true) ∧ Below w.heap.size w w' := by
  refine less_in W a b w h1 h2 h3 h4 (fun n => ⟨(L n).toArray⟩) (fun n => ⟨(L n ++ [46]).toArray⟩) (fun n => ⟨([45] ++ L n).toArray⟩) (fun n => ⟨([45] ++ L n ++ [46]).toArray⟩)
    (fun n m => ⟨(L n ++ [46] ++ L m).toArray⟩) (fun n m => ⟨([45] ++ L n ++ [46] ++ L m).toArray⟩) xa xb ya yb ?r1 ?r2 ?r3 ?r4 ?r5 (fun n w1 _ hn => cE n w1 hn) (fun t => (nearP t.data.toList).1) ?f1 ?f2 ?f3 ?f4 ?_ (fun w1 hb => wakes_any w1 (hg.below hb)) k1 k2 k3 k4
  case r1 => exact fun w n => run_string_add_lists (P := Tryd.prog) (w := w) (L n) [46] (by have := hl n; omega) (by simp)
  case r2 => exact fun w n m => run_string_add_lists (P := Tryd.prog) (w := w) (L n ++ [46]) (L m) (by rw [List.length_append, hl n]; decide) (by have := hl m; omega)
  case r3 => exact fun w n => run_string_add_lists (P := Tryd.prog) (w := w) [45] (L n) (by simp) (by have := hl n; omega)
  case r4 => exact fun w n => run_string_add_lists (P := Tryd.prog) (w := w) ([45] ++ L n) [46] (by rw [List.length_append, hl n]; decide) (by simp)
  case r5 => exact fun w n m => run_string_add_lists (P := Tryd.prog) (w := w) ([45] ++ L n ++ [46]) (L m) (by rw [List.length_append, List.length_append, hl n]; decide) (by have := hl m; omega)
  case f1 => show (nearP (⟨(L W ++ [46] ++ L a).toArray⟩ : ByteArray).data.toList).1 = xa; rw [toList_mk, na1]
  case f2 => show (nearP (⟨(L W ++ [46] ++ L b).toArray⟩ : ByteArray).data.toList).1 = xb; rw [toList_mk, nb1]
  case f3 => show (nearP (⟨([45] ++ L W ++ [46] ++ L a).toArray⟩ : ByteArray).data.toList).1 = ya; rw [toList_mk, na2]
  case f4 => show (nearP (⟨([45] ++ L W ++ [46] ++ L b).toArray⟩ : ByteArray).data.toList).1 = yb; rw [toList_mk, nb2]
  intro t w1 hb ht
  have key : (nearP t.data.toList).2 = 0 := by
    rcases ht with rfl | rfl | rfl | rfl
    · rw [toList_mk, na1]
    · rw [toList_mk, nb1]
    · rw [toList_mk, na2]
    · rw [toList_mk, nb2]
  have := near_any t w1 (hg.below hb)
  rwa [key] at this
theorem less_any (W a b : Int) (w : World) (hg : Glo w) :
    Calls Tryd.prog 8 #[.int .i64 W, .int .i64 a, .int .i64 b] w fun e w' => e = .returned (.bool true) ∧ Below w.heap.size w w' := by
  by_cases h : 0 ≤ W ∧ W ≤ 9999999 ∧ 0 ≤ a ∧ a ≤ 99999999 ∧ a ≤ b ∧ b ≤ 99999999
  · obtain ⟨W, rfl⟩ : ∃ n : Nat, W = n := ⟨W.toNat, by omega⟩
    obtain ⟨a, rfl⟩ : ∃ n : Nat, a = n := ⟨a.toNat, by omega⟩
    obtain ⟨b, rfl⟩ : ∃ n : Nat, b = n := ⟨b.toNat, by omega⟩
    have hl : ∀ n, (lastD 8 n).length = 8 := fun n => (lastD_spec 8 n).1
    have m1 := nU_mono false a b (by omega) (by omega)
    have m2 := nU_mono true a b (by omega) (by omega)
    have cE := eight_any
    have n1 : ∀ c, c ≤ 99999999 → nearP (lastD 8 W ++ [46] ++ lastD 8 c) = (((W * 65536 + nU false c : Nat) : Int), 0) := by
      intro c hc
      have := near_eight false W c (by omega) hc
      rw [List.append_assoc]
      exact this
    have n2 : ∀ c, c ≤ 99999999 → nearP ([45] ++ lastD 8 W ++ [46] ++ lastD 8 c) = (-((W * 65536 + nU true c : Nat) : Int), 0) := by
      intro c hc
      have := near_eight true W c (by omega) hc
      rw [List.append_assoc, List.append_assoc]
      exact this
    have na1 := n1 a (by omega)
    have nb1 := n1 b (by omega)
    have na2 := n2 a (by omega)
    have nb2 := n2 b (by omega)
    clear n1 n2
    generalize lastD 8 = L at *
    exact less_in2 W a b w hg (by omega) (by omega) (by omega) (by omega) L hl _ _ _ _ (fun n w1 hn => cE n w1 hn) na1 nb1 na2 nb2 (by omega) (by omega) (by omega) (by omega)
  · exact less_out W a b w hg (by omega)
end Go.Proofs.YtdmfmiejjghfnaaDoor
