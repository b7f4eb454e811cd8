/-
  What the reference's one and lead (chapter 4) answer.
-/
import Derived.Test.YtpmdekhjodhdmaaDoorU4RCls
import Derived.Test.YtpmdekhjodhdmaaDoorU4Row
namespace Go.Proofs.YtpmdekhjodhdmaaDoor
open Go.RowKit

/- string([]byte{..}) of what was laid right ahead -/
theorem lit_text (w : World) (cs : Array Value) (ys : List UInt8) (n : Nat) (hn : ys.length = n) (h : cs = (ys.map bcell).toArray) :
    (convert 56 9 (.slice (some ⟨w.heap.size, 0, none⟩) n n)).run Tryd.prog (w.alloc (.cells cs 5)) = .ok (.string ⟨ys.toArray⟩) (w.alloc (.cells cs 5)) := by
  subst hn h
  refine run_convert_bytes_back (P := Tryd.prog) _ 56 9 5 ⟨w.heap.size, 0, none⟩ _ ys Tryd.underlying56 Tryd.underlying5 Tryd.underlying9 ?_
  intro k hk
  rw [Go.WideShapes.add_plain, Nat.zero_add, World.cell?_alloc_at _ _ _ _ rfl]
  simp [List.getElem?_eq_getElem hk, bcell]
theorem bcell_bt (n : Nat) (h : n < 256) (x : Int) (hx : x = (n : Int)) : Value.int .u8 x = bcell (bt n) := by
  unfold bcell
  rw [bt_nat n h, hx]

theorem one_1 (c : Nat) (w : World) (h : c < 128) :
    Calls Tryd.prog 38 #[.int .i64 c] w fun e w' => e = .returned (.string ⟨#[bt c]⟩) ∧ Below w.heap.size w w' := by
  have h1 : (c : Int) < 128 := by omega
  have hr := fun w => lit_text w #[.int .u8 (c : Int)] [bt c] 1 rfl (by rw [bcell_bt c (by omega) _ rfl]; rfl)
  clear h
  generalize bt c = b0 at *
  go_enter Tryd.func38, Tryd.ntmps38
  go_wp2
  go_ret
  exact ⟨rfl, (Below.refl _ _).alloc (Nat.le_refl _) _⟩
theorem one_2 (c Q M : Nat) (w : World) (h : 128 ≤ c) (h2 : c < 2048) (hQ : c / 64 = Q) (hM : c % 64 = M) :
    Calls Tryd.prog 38 #[.int .i64 c] w fun e w' => e = .returned (.string ⟨#[bt (192 + Q), bt (128 + M)]⟩) ∧ Below w.heap.size w w' := by
  have h1 : ¬ (c : Int) < 128 := by omega
  have h3 : (c : Int) < 2048 := by omega
  have e1 : (c : Int) / 64 = (Q : Int) := by omega
  have e2 : (c : Int) % 64 = (M : Int) := by omega
  have q1 : (Q : Int) ≤ 31 := by omega
  have m1 : (M : Int) ≤ 63 := by omega
  have hr := fun w => lit_text w #[.int .u8 (192 + (Q : Int)), .int .u8 (128 + (M : Int))] [bt (192 + Q), bt (128 + M)] 2 rfl (by rw [bcell_bt (192 + Q) (by omega) _ (by omega), bcell_bt (128 + M) (by omega) _ (by omega)]; rfl)
  clear h h2 hQ hM
  generalize bt (192 + Q) = b0 at *
  generalize bt (128 + M) = b1 at *
  go_enter Tryd.func38, Tryd.ntmps38
  go_wp2
  go_ret
  exact ⟨rfl, (Below.refl _ _).alloc (Nat.le_refl _) _⟩
theorem one_3 (c Q K N M : Nat) (w : World) (h : 2048 ≤ c) (h2 : c < 65536) (hQ : c / 4096 = Q) (hK : c / 64 = K) (hN : K % 64 = N) (hM : c % 64 = M) :
    Calls Tryd.prog 38 #[.int .i64 c] w fun e w' => e = .returned (.string ⟨#[bt (224 + Q), bt (128 + N), bt (128 + M)]⟩) ∧ Below w.heap.size w w' := by
  have h1 : ¬ (c : Int) < 128 := by omega
  have h3 : ¬ (c : Int) < 2048 := by omega
  have h4 : (c : Int) < 65536 := by omega
  have e1 : (c : Int) / 4096 = (Q : Int) := by omega
  have e2 : (c : Int) / 64 = (K : Int) := by omega
  have e3 : (K : Int) % 64 = (N : Int) := by omega
  have e4 : (c : Int) % 64 = (M : Int) := by omega
  have q1 : (Q : Int) ≤ 15 := by omega
  have k1 : (K : Int) ≤ 1023 := by omega
  have n1 : (N : Int) ≤ 63 := by omega
  have m1 : (M : Int) ≤ 63 := by omega
  have hr := fun w => lit_text w #[.int .u8 (224 + (Q : Int)), .int .u8 (128 + (N : Int)), .int .u8 (128 + (M : Int))] [bt (224 + Q), bt (128 + N), bt (128 + M)] 3 rfl (by rw [bcell_bt (224 + Q) (by omega) _ (by omega), bcell_bt (128 + N) (by omega) _ (by omega), bcell_bt (128 + M) (by omega) _ (by omega)]; rfl)
  clear h h2 hQ hM hK hN
  generalize bt (224 + Q) = b0 at *
  generalize bt (128 + N) = b1 at *
  generalize bt (128 + M) = b2 at *
  go_enter Tryd.func38, Tryd.ntmps38
  go_wp2
  go_ret
  exact ⟨rfl, (Below.refl _ _).alloc (Nat.le_refl _) _⟩
theorem one_4 (c Q K N K' N' M : Nat) (w : World) (h : 65536 ≤ c) (h2 : c ≤ 1114111) (hQ : c / 262144 = Q) (hK : c / 4096 = K) (hN : K % 64 = N) (hK' : c / 64 = K') (hN' : K' % 64 = N') (hM : c % 64 = M) :
    Calls Tryd.prog 38 #[.int .i64 c] w fun e w' => e = .returned (.string ⟨#[bt (240 + Q), bt (128 + N), bt (128 + N'), bt (128 + M)]⟩) ∧ Below w.heap.size w w' := by
  have h1 : ¬ (c : Int) < 128 := by omega
  have h3 : ¬ (c : Int) < 2048 := by omega
  have h4 : ¬ (c : Int) < 65536 := by omega
  have h5 : (c : Int) ≤ 1114111 := by omega
  have e1 : (c : Int) / 262144 = (Q : Int) := by omega
  have e2 : (c : Int) / 4096 = (K : Int) := by omega
  have e3 : (K : Int) % 64 = (N : Int) := by omega
  have e2' : (c : Int) / 64 = (K' : Int) := by omega
  have e3' : (K' : Int) % 64 = (N' : Int) := by omega
  have e4 : (c : Int) % 64 = (M : Int) := by omega
  have q1 : (Q : Int) ≤ 4 := by omega
  have k1 : (K : Int) ≤ 272 := by omega
  have n1 : (N : Int) ≤ 63 := by omega
  have k1' : (K' : Int) ≤ 17408 := by omega
  have n1' : (N' : Int) ≤ 63 := by omega
  have m1 : (M : Int) ≤ 63 := by omega
  have hr := fun w => lit_text w #[.int .u8 (240 + (Q : Int)), .int .u8 (128 + (N : Int)), .int .u8 (128 + (N' : Int)), .int .u8 (128 + (M : Int))] [bt (240 + Q), bt (128 + N), bt (128 + N'), bt (128 + M)] 4 rfl (by rw [bcell_bt (240 + Q) (by omega) _ (by omega), bcell_bt (128 + N) (by omega) _ (by omega), bcell_bt (128 + N') (by omega) _ (by omega), bcell_bt (128 + M) (by omega) _ (by omega)]; rfl)
  clear h h2 hQ hM hK hN hK' hN'
  generalize bt (240 + Q) = b0 at *
  generalize bt (128 + N) = b1 at *
  generalize bt (128 + N') = b2 at *
  generalize bt (128 + M) = b3 at *
  go_enter Tryd.func38, Tryd.ntmps38
  go_wp2
  go_ret
  exact ⟨rfl, (Below.refl _ _).alloc (Nat.le_refl _) _⟩
theorem one_any (c : Nat) (w : World) (h : c ≤ 1114111) :
    Calls Tryd.prog 38 #[.int .i64 c] w fun e w' => e = .returned (.string ⟨(e8 c).toArray⟩) ∧ Below w.heap.size w w' := by
  by_cases c1 : c < 128
  · rw [u8_1 c1]; exact one_1 c w c1
  by_cases c2 : c < 2048
  · rw [u8_2 (by omega) c2]; exact one_2 c _ _ w (by omega) c2 rfl rfl
  by_cases c3 : c < 65536
  · rw [u8_3 (by omega) c3]; exact one_3 c _ _ _ _ w (by omega) c3 rfl rfl rfl rfl
  · rw [u8_4 (by omega)]; exact one_4 c _ _ _ _ _ _ w (by omega) h rfl rfl rfl rfl rfl rfl

/- how many bytes a first byte says, and its part -/
def leadN (b : Nat) : Nat × Nat :=
  if b < 128 then (1, b) else if 192 ≤ b ∧ b < 224 then (2, b - 192) else if 224 ≤ b ∧ b < 240 then (3, b - 224) else if 240 ≤ b ∧ b < 248 then (4, b - 240) else (0, 0)
theorem lead_any (b : Nat) (w : World) (h : b < 256) :
    Calls Tryd.prog 36 #[.int .u8 b] w fun e w' => e = .returned (.tuple #[.int .i64 (leadN b).1, .int .i64 (leadN b).2]) ∧ w' = w := by
  have h0 : (b : Int) < 256 := by omega
  unfold leadN
  by_cases a1 : b < 128
  · rw [if_pos a1]
    have d1 : (b : Int) < 128 := by omega
    go_enter Tryd.func36, Tryd.ntmps36
    go_wp2
    go_ret2
    exact ⟨rfl, rfl⟩
  rw [if_neg a1]
  have d1 : decide ((b : Int) < 128) = false := by simp; omega
  by_cases a2 : b < 192
  · rw [if_neg (by omega), if_neg (by omega), if_neg (by omega)]
    have d2 : decide ((192 : Int) ≤ (b : Int)) = false := by simp; omega
    have d3 : decide ((224 : Int) ≤ (b : Int)) = false := by simp; omega
    have d4 : decide ((240 : Int) ≤ (b : Int)) = false := by simp; omega
    go_enter Tryd.func36, Tryd.ntmps36
    go_wp2
    go_ret2
    exact ⟨rfl, rfl⟩
  have d2 : decide ((192 : Int) ≤ (b : Int)) = true := by simp; omega
  by_cases a3 : b < 224
  · rw [if_pos (by omega)]
    have d3 : decide ((b : Int) < 224) = true := by simp; omega
    have e1 : ((b - 192 : Nat) : Int) = (b : Int) - 192 := by omega
    have d5 : (192 : Int) ≤ (b : Int) := by omega
    rw [e1]
    clear a1 a2 a3 h
    go_enter Tryd.func36, Tryd.ntmps36
    go_wp2
    go_ret2
    exact ⟨rfl, rfl⟩
  rw [if_neg (by omega)]
  have d3 : decide ((b : Int) < 224) = false := by simp; omega
  have d4 : decide ((224 : Int) ≤ (b : Int)) = true := by simp; omega
  by_cases a4 : b < 240
  · rw [if_pos (by omega)]
    have d5 : decide ((b : Int) < 240) = true := by simp; omega
    have e1 : ((b - 224 : Nat) : Int) = (b : Int) - 224 := by omega
    have d6 : (224 : Int) ≤ (b : Int) := by omega
    rw [e1]
    clear a1 a2 a3 a4 h
    go_enter Tryd.func36, Tryd.ntmps36
    go_wp2
    go_ret2
    exact ⟨rfl, rfl⟩
  rw [if_neg (by omega)]
  have d5 : decide ((b : Int) < 240) = false := by simp; omega
  have d6 : decide ((240 : Int) ≤ (b : Int)) = true := by simp; omega
  by_cases a5 : b < 248
  · rw [if_pos (by omega)]
    have d7 : decide ((b : Int) < 248) = true := by simp; omega
    have e1 : ((b - 240 : Nat) : Int) = (b : Int) - 240 := by omega
    have d8 : (240 : Int) ≤ (b : Int) := by omega
    rw [e1]
    clear a1 a2 a3 a4 a5 h
    go_enter Tryd.func36, Tryd.ntmps36
    go_wp2
    go_ret2
    exact ⟨rfl, rfl⟩
  · rw [if_neg (by omega)]
    have d7 : decide ((b : Int) < 248) = false := by simp; omega
    go_enter Tryd.func36, Tryd.ntmps36
    go_wp2
    go_ret2
    exact ⟨rfl, rfl⟩
end Go.Proofs.YtpmdekhjodhdmaaDoor
