/-
  The law's digits; where the entries stand in the text, in plain words.
-/
import Derived.Test.YtlnkddmpcicejaaDoorQF
import Derived.Test.YtlnkddmpcicejaaDoorP6Op
namespace Go.Proofs.YtlnkddmpcicejaaDoor
open Go.RowKit Go.Deep
set_option linter.unusedVariables false

def dsI (k : Int) : ByteArray := ⟨(Lib.itoa k).toArray⟩
set_option maxRecDepth 8000 in
set_option maxHeartbeats 1000000 in
theorem dgt_one (k : Int) (h0 : 0 ≤ k) (h : k < 10) (w : World) : Calls Tryd.prog 10 #[.int .i64 k] w fun e w' => e = .returned (.string (dsI k)) ∧ Below w.heap.size w w' := by
  have hd : ∀ n : Nat, n < 10 → dsI (n : Int) = ⟨#[UInt8.ofNat (48 + n)]⟩ := fun n hn => by unfold dsI; rw [itoa_s n hn]
  rcases (show k = 0 ∨ k = 1 ∨ k = 2 ∨ k = 3 ∨ k = 4 ∨ k = 5 ∨ k = 6 ∨ k = 7 ∨ k = 8 ∨ k = 9 by omega) with rfl | rfl | rfl | rfl | rfl | rfl | rfl | rfl | rfl | rfl
  · rw [show dsI 0 = ⟨#[48]⟩ from hd 0 (by omega)]
    clear hd
    go_enter Tryd.func10, Tryd.ntmps10
    go_wp2_with fail
    go_ret
    exact ⟨by first | rfl | kernel_rfl, Below.refl _ _⟩
  · rw [show dsI 1 = ⟨#[49]⟩ from hd 1 (by omega)]
    clear hd
    go_enter Tryd.func10, Tryd.ntmps10
    go_wp2_with fail
    go_ret
    exact ⟨by first | rfl | kernel_rfl, Below.refl _ _⟩
  · rw [show dsI 2 = ⟨#[50]⟩ from hd 2 (by omega)]
    clear hd
    go_enter Tryd.func10, Tryd.ntmps10
    go_wp2_with fail
    go_ret
    exact ⟨by first | rfl | kernel_rfl, Below.refl _ _⟩
  · rw [show dsI 3 = ⟨#[51]⟩ from hd 3 (by omega)]
    clear hd
    go_enter Tryd.func10, Tryd.ntmps10
    go_wp2_with fail
    go_ret
    exact ⟨by first | rfl | kernel_rfl, Below.refl _ _⟩
  · rw [show dsI 4 = ⟨#[52]⟩ from hd 4 (by omega)]
    clear hd
    go_enter Tryd.func10, Tryd.ntmps10
    go_wp2_with fail
    go_ret
    exact ⟨by first | rfl | kernel_rfl, Below.refl _ _⟩
  · rw [show dsI 5 = ⟨#[53]⟩ from hd 5 (by omega)]
    clear hd
    go_enter Tryd.func10, Tryd.ntmps10
    go_wp2_with fail
    go_ret
    exact ⟨by first | rfl | kernel_rfl, Below.refl _ _⟩
  · rw [show dsI 6 = ⟨#[54]⟩ from hd 6 (by omega)]
    clear hd
    go_enter Tryd.func10, Tryd.ntmps10
    go_wp2_with fail
    go_ret
    exact ⟨by first | rfl | kernel_rfl, Below.refl _ _⟩
  · rw [show dsI 7 = ⟨#[55]⟩ from hd 7 (by omega)]
    clear hd
    go_enter Tryd.func10, Tryd.ntmps10
    go_wp2_with fail
    go_ret
    exact ⟨by first | rfl | kernel_rfl, Below.refl _ _⟩
  · rw [show dsI 8 = ⟨#[56]⟩ from hd 8 (by omega)]
    clear hd
    go_enter Tryd.func10, Tryd.ntmps10
    go_wp2_with fail
    go_ret
    exact ⟨by first | rfl | kernel_rfl, Below.refl _ _⟩
  · rw [show dsI 9 = ⟨#[57]⟩ from hd 9 (by omega)]
    clear hd
    go_enter Tryd.func10, Tryd.ntmps10
    go_wp2_with fail
    go_ret
    exact ⟨by first | rfl | kernel_rfl, Below.refl _ _⟩
theorem ds_join (n : Nat) (h : 10 ≤ n) : Lib.itoa ((n / 10 : Nat) : Int) ++ Lib.itoa ((n % 10 : Nat) : Int) = Lib.itoa (n : Int) := by
  rw [Lib.itoa_nonneg, Lib.itoa_nonneg, Lib.itoa_nonneg]
  rw [show Lib.decDigits n = Lib.decDigits (n / 10) ++ [UInt8.ofNat (48 + n % 10)] by rw [Lib.decDigits, dif_neg (by omega)]]
  rw [show Lib.decDigits (n % 10) = [UInt8.ofNat (48 + n % 10)] by rw [Lib.decDigits, dif_pos (by omega)]]
theorem ds_len (n : Nat) (h : n ≤ 1000000) : (Lib.itoa (n : Int)).length ≤ 21 := Lib.itoa_length_le _ (by omega) (by omega)
set_option maxRecDepth 8000 in
set_option maxHeartbeats 1000000 in
theorem dgt_more (n : Nat) (h : 10 ≤ n) (h2 : n ≤ 1000000) (w : World)
    (ih : ∀ (k : Int) (x : World), 0 ≤ k → k ≤ ((n / 10 : Nat) : Int) ∨ k < 10 → Calls Tryd.prog 10 #[.int .i64 k] x fun e w' => e = .returned (.string (dsI k)) ∧ Below x.heap.size x w') :
    Calls Tryd.prog 10 #[.int .i64 n] w fun e w' => e = .returned (.string (dsI n)) ∧ Below w.heap.size w w' := by
  have h1 : (10 : Int) ≤ (n : Int) := by omega
  have h3 : (n : Int) ≤ 1000000 := by omega
  have t1 : ¬ ((n : Int) < 10) := by omega
  have hd1 : ((n / 10 : Nat) : Int) = (n : Int) / 10 := by omega
  have hd2 : ((n % 10 : Nat) : Int) = (n : Int) % 10 := by omega
  have hj : dsI n = ⟨(Lib.itoa ((n : Int) / 10) ++ Lib.itoa ((n : Int) % 10)).toArray⟩ := by unfold dsI; rw [← ds_join n h, hd1, hd2]
  have hl1 := ds_len (n / 10) (by omega)
  have hl2 := ds_len (n % 10) (by omega)
  rw [hd1] at hl1
  rw [hd2] at hl2
  have C1 := hide (fun x => ih ((n : Int) / 10) x (by omega) (Or.inl (by omega)))
  have C2 := hide (fun x => ih ((n : Int) % 10) x (by omega) (Or.inr (by omega)))
  rw [hj]
  clear ih hj hd1 hd2 h
  unfold dsI at C1 C2
  generalize Lib.itoa ((n : Int) / 10) = q1 at *
  generalize Lib.itoa ((n : Int) % 10) = q2 at *
  have hs := fun (w : World) => run_string_add_lists (P := Tryd.prog) (w := w) q1 q2 (by omega) (by omega)
  clear hl1 hl2
  go_enter Tryd.func10, Tryd.ntmps10
  go_wp2_with fail
  refine (C1.out _).mono ?_
  rintro e w1 ⟨rfl, b1⟩
  have HB1 := hide b1
  clear b1
  go_wp2_with fail
  refine (C2.out _).mono ?_
  rintro e w2 ⟨rfl, b2⟩
  have HB2 := hide b2
  clear b2
  go_wp2_with fail
  go_ret
  exact ⟨rfl, below_t5 HB1.out HB2.out⟩
theorem dgt_any (f : Nat) : ∀ (k : Int) (w : World), 0 ≤ k → k < 10 ^ (f + 1) → k ≤ 1000000 → Calls Tryd.prog 10 #[.int .i64 k] w fun e w' => e = .returned (.string (dsI k)) ∧ Below w.heap.size w w' := by
  induction f with
  | zero => exact fun k w h0 h1 _ => dgt_one k h0 (by simpa using h1) w
  | succ f ih =>
    intro k w h0 h1 h2
    by_cases hk : k < 10
    · exact dgt_one k h0 hk w
    · obtain ⟨n, rfl⟩ : ∃ n : Nat, k = (n : Int) := ⟨k.toNat, by omega⟩
      refine dgt_more n (by omega) (by omega) w fun k x hk0 hk1 => ?_
      rcases hk1 with hk1 | hk1
      · refine ih k x hk0 ?_ (by omega)
        rw [Int.pow_succ] at h1
        have : ((n / 10 : Nat) : Int) = (n : Int) / 10 := by omega
        omega
      · exact dgt_one k hk0 hk1 x
/- where the entries stand -/
abbrev hdW : List UInt8 := [32, 48, 32, 111, 98, 106, 10]
def wnT (n i : Nat) : List UInt8 := if i < n then Lib.itoa ((i : Int) + 1) ++ hdW else [120, 114, 101, 102, 10]
theorem layG_at : ∀ (l : List EP) (k : Nat) (F : List UInt8) (zs : List Int) (q : List UInt8 × List Int), layG k l F zs = some q →
    ∃ G ys, q.1 = F ++ G ∧ q.2 = zs ++ ys ∧ ys.length = l.length ∧ (∀ i, i < l.length → ∃ pre post, F ++ G = pre ++ (Lib.itoa ((k + i + 1 : Nat) : Int) ++ hdW) ++ post ∧ ys.getD i 0 = (pre.length : Int) ∧ F.length ≤ pre.length ∧ (0 < i → ys.getD (i - 1) 0 < (pre.length : Int))) ∧ (0 < l.length → ys.getD (l.length - 1) 0 < ((F ++ G).length : Int))
  | [], k, F, zs, q, h => by
    unfold layG at h
    cases h
    exact ⟨[], [], by simp, by simp, rfl, fun i hi => by simp at hi, fun h => by simp at h⟩
  | x :: l, k, F, zs, q, h => by
    unfold layG at h
    split at h
    case isFalse => cases h
    obtain ⟨G, ys, e1, e2, e3, e4, e5⟩ := layG_at l _ _ _ q h
    have hent : ∃ t, entT (k + 1) x = (Lib.itoa ((k + 1 : Nat) : Int) ++ hdW) ++ t := ⟨objT (bdP x) (bdT x) ++ strmT x ++ [10, 101, 110, 100, 111, 98, 106, 10], by unfold entT; simp⟩
    obtain ⟨t, ht⟩ := hent
    have hpos : 0 < (entT (k + 1) x).length := by rw [ht]; simp; omega
    refine ⟨entT (k + 1) x ++ G, (F.length : Int) :: ys, by rw [e1]; simp, by rw [e2]; simp, by simp [e3], fun i hi => ?_, fun _ => ?_⟩
    · cases i with
      | zero => exact ⟨F, t ++ G, by rw [ht]; simp, by simp, Nat.le_refl _, fun h => by omega⟩
      | succ i =>
        simp at hi
        obtain ⟨pre, post, g1, g2, g3, g4⟩ := e4 i hi
        refine ⟨pre, post, ?_, by simpa using g2, by simp at g3; omega, fun _ => ?_⟩
        · rw [show k + (i + 1) + 1 = k + 1 + i + 1 by omega, ← g1]
          simp
        · cases i with
          | zero => simp at g3 ⊢; omega
          | succ i => simpa using g4 (by omega)
    · cases l with
      | nil =>
        simp
        omega
      | cons y l =>
        have := e5 (by simp)
        simp only [List.length_cons, Nat.add_sub_cancel] at this ⊢
        rw [List.getD_cons_succ]
        simpa [Nat.add_assoc] using this
end Go.Proofs.YtlnkddmpcicejaaDoor
