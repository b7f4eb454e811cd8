/-
  What the landed number and appendNumber answer.
-/
import Derived.Test.YtgmmhlpdkoiheaaDoorS8Sum
import Derived.Test.YtgmmhlpdkoiheaaDoorS8Row
namespace Go.Proofs.YtgmmhlpdkoiheaaDoor
open Go.RowKit Go.Deep
set_option linter.unusedVariables false

def numV (l : List UInt8) : Nat := l.foldl (fun x c => x * 256 + c.toNat) 0
theorem numV_snoc (l : List UInt8) (c : UInt8) : numV (l ++ [c]) = numV l * 256 + c.toNat := by
  unfold numV; rw [List.foldl_append]; rfl
theorem numV_lt : ∀ (n : Nat) (l : List UInt8), l.length = n → numV l < 256 ^ n := by
  intro n
  induction n with
  | zero => intro l h; rw [List.eq_nil_of_length_eq_zero h]; decide
  | succ n ih =>
    intro l h
    obtain ⟨a, c, rfl⟩ : ∃ a c, l = a ++ [c] := by
      rcases List.eq_nil_or_concat l with h0 | ⟨a, c, h0⟩
      · rw [h0] at h; simp at h
      · exact ⟨a, c, by simpa using h0⟩
    rw [numV_snoc, Nat.pow_succ]
    have h1 := ih a (by simpa using h)
    have h2 := c.toNat_lt
    omega
theorem or_256 (x : Int) (c : Int) (h0 : 0 ≤ x) (h1 : x ≤ 16777216) (h2 : 0 ≤ c) (h3 : c < 256) : bits BinOp.or .i64 (x * 256) c = x * 256 + c :=
  bits_join .i64 63 (by decide) wraps_i64 8 (x * 256) c (by omega) (by omega) (by omega) h2 (by omega) (by omega)
set_option maxHeartbeats 1000000 in
theorem number_any (s : ByteArray) (w : World) (hs : s.size ≤ 4) :
    Calls Tryd.prog 42 #[.string s] w fun e w' => e = .returned (.int .i64 ((numV s.data.toList : Nat) : Int)) ∧ w' = w := by
  have hs' : (s.size : Int) ≤ 4 := by omega
  go_enter Tryd.func42, Tryd.ntmps42
  go_wp2_with fail
  go_loop [3, 7] (fun vs vi => ∃ (k S : Nat), vi = .int .i64 k ∧ vs = .int .i64 S ∧ Hid (k ≤ s.size ∧ S = numV (s.data.toList.take k))) (fun _ vi => s.size - (intOf vi).toNat)
  case atStart => exact ⟨0, 0, rfl, rfl, hide ⟨by omega, by simp [numV]⟩⟩
  case round =>
    obtain ⟨k, S, rfl, rfl, HV⟩ := hrel
    obtain ⟨hk, hS⟩ := HV.out
    have hk0 : (0 : Int) ≤ (k : Int) := by omega
    have hS0 : (0 : Int) ≤ (S : Int) := by omega
    have HS := hide hS
    by_cases hlt : k < s.size
    case neg =>
      have hlt' : ¬ (k : Int) < (s.size : Int) := by omega
      have e : S = numV s.data.toList := by
        rw [hS, List.take_of_length_le (by rw [← Lib.size_eq]; omega)]
      clear hlt HS HV hS
      subst e
      go_wp2_with fail
      go_ret
      exact ⟨rfl, rfl⟩
    have hlt' : (k : Int) < (s.size : Int) := by omega
    have hc := s[k].toNat_lt
    have hb : (S : Int) ≤ 16777216 := by
      have h1 := numV_lt k (s.data.toList.take k) (by rw [List.length_take, Nat.min_eq_left (by rw [← Lib.size_eq]; omega)])
      have h2 : 256 ^ k ≤ 256 ^ 3 := Nat.pow_le_pow_right (by omega) (by omega)
      omega
    have ho := or_256 S (s[k].toNat : Int) hS0 hb (by omega) (by omega)
    have st : numV (s.data.toList.take (k + 1)) = numV (s.data.toList.take k) * 256 + s[k].toNat := by rw [take_snoc8 s k hlt, numV_snoc]
    have HST := hide st
    clear st HV hS
    go_wp2_with fail
    go_round
    case rel =>
      refine ⟨k + 1, numV (s.data.toList.take (k + 1)), by go_num, ?_, hide ⟨hlt, rfl⟩⟩
      rw [HST.out, ← HS.out]
      congr 1
    case measure => simp [intOf]; omega
/- the bytes of a number, the highest first -/
def nbB (x : Int) (j : Nat) : UInt8 := UInt8.ofNat (x / 256 ^ j % 256).toNat
def nbT (x : Int) : Nat → List UInt8
  | 0 => []
  | j + 1 => nbB x j :: nbT x j
theorem nbT_len (x : Int) : ∀ j, (nbT x j).length = j
  | 0 => rfl
  | j + 1 => by rw [nbT, List.length_cons, nbT_len x j]
theorem nbB_cell (x : Int) (j : Nat) : bcell (nbB x j) = .int .u8 (x / 256 ^ j % 256) := by
  unfold bcell nbB
  have h0 : 0 ≤ x / 256 ^ j % 256 := Int.emod_nonneg _ (by omega)
  have h1 : x / 256 ^ j % 256 < 256 := Int.emod_lt_of_pos _ (by omega)
  rw [UInt8.toNat_ofNat']
  congr 1
  omega
set_option maxRecDepth 8000 in
set_option maxHeartbeats 2000000 in
theorem appendNumber_any (v : Value) (ys : List UInt8) (x : Int) (n B : Nat) (w : World) (hn : n ≤ 4) (hx0 : -4611686018427387904 ≤ x) (hx1 : x ≤ 4611686018427387904) (h : BRow w B v ys) (hB : B ≤ w.heap.size) (hl : ys.length ≤ 1000000000000) :
    Calls Tryd.prog 57 #[v, .int .i64 x, .int .i64 n] w fun e w' => ∃ v', e = .returned v' ∧ BRow w' B v' (ys ++ nbT x n) ∧ KB B w w' := by
  have H0 := hide h
  clear h
  go_enter Tryd.func57, Tryd.ntmps57
  go_wp2_with fail
  go_loopw [0, 9] (fun vb vi wr => ∃ (k : Nat) (zs : List UInt8), vi = .int .i64 k ∧ Hid (k ≤ n ∧ zs ++ nbT x (n - k) = ys ++ nbT x n ∧ zs.length = ys.length + k ∧ BRow wr B vb zs ∧ KB B w wr)) (fun _ vi _ => n - (intOf vi).toNat)
  case atStart => exact ⟨0, ys, rfl, hide ⟨by omega, rfl, by omega, H0.out, KB.refl _ _⟩⟩
  case round =>
    clear H0
    obtain ⟨k, zs, rfl, HV⟩ := hrel
    obtain ⟨hk, hz, hzl, hb, hkb⟩ := HV.out
    have hk0 : (0 : Int) ≤ (k : Int) := by omega
    have HZ := hide hz
    by_cases hlt : k < n
    case neg =>
      have hlt' : ¬ (k : Int) < (n : Int) := by omega
      have e : zs = ys ++ nbT x n := by
        rw [show n - k = 0 by omega] at hz
        simpa [nbT] using hz
      have HB := hide hb
      have HKB := hide hkb
      have E := hide e
      clear HV hz hb hkb e hlt HZ
      go_wp2_with fail
      go_ret
      refine ⟨_, rfl, ?_, HKB.out⟩
      rw [← E.out]
      exact HB.out
    have hlt' : (k : Int) < (n : Int) := by omega
    obtain ⟨v', w2, hr, hb2, hw2⟩ := app_b3 [nbB x (n - 1 - k)] hb (Nat.le_trans hB hkb.size) (by simp) (by simp; omega) _ rfl
    rw [show [nbB x (n - 1 - k)].map bcell = [bcell (nbB x (n - 1 - k))] from rfl, nbB_cell] at hr
    have e : zs ++ [nbB x (n - 1 - k)] ++ nbT x (n - (k + 1)) = ys ++ nbT x n := by
      rw [← hz, show n - k = (n - 1 - k) + 1 by omega, nbT, show n - (k + 1) = n - 1 - k by omega, List.append_assoc]
      rfl
    have HR := hide hr
    have HB2 := hide hb2
    have HK2 := hide (hkb.trans hw2)
    have E := hide e
    have HZL := hide hzl
    have hj : ∃ j : Nat, j = n - 1 - k ∧ j ≤ 3 := ⟨_, rfl, by omega⟩
    obtain ⟨j, hj, hj3⟩ := hj
    rw [← hj] at HR HB2 E
    have hjn : (n : Int) - 1 - (k : Int) = (j : Int) := by omega
    clear HV hz hb hkb e hr hb2 hw2 hzl hj HZ
    rcases (show j = 0 ∨ j = 1 ∨ j = 2 ∨ j = 3 by omega) with rfl | rfl | rfl | rfl
    all_goals
      have hr1 := HR.out
      first | rw [show (256 : Int) ^ 0 = 1 from rfl, Int.ediv_one] at hr1 | rw [show (256 : Int) ^ 1 = 256 from rfl] at hr1 | rw [show (256 : Int) ^ 2 = 65536 from rfl] at hr1 | rw [show (256 : Int) ^ 3 = 16777216 from rfl] at hr1
      replace HR := hide hr1
      clear hr1
      go_wp2_with (at_builtin; refine Lib.wpList_append_run _ rfl _ _ _ _ rfl _ _ rfl rfl _ _ HR.out ?_)
      go_roundw
      case rel => exact ⟨k + 1, _, by go_num, hide ⟨by omega, E.out, by rw [List.length_append, HZL.out, List.length_singleton]; omega, HB2.out, HK2.out⟩⟩
      case measure => simp [intOf]; omega
end Go.Proofs.YtgmmhlpdkoiheaaDoor
