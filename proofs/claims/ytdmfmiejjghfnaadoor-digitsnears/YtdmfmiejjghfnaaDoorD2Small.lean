/-
  What digits.allDigits and digits.wholeNumber answer.
-/
import Derived.Test.YtdmfmiejjghfnaaDoorD2Scan
namespace Go.Proofs.YtdmfmiejjghfnaaDoor
open Go.RowKit

def digs (l : List UInt8) : Bool := l.all isDig && !l.isEmpty
def dv (c : UInt8) : Nat := c.toNat - 48
def val (l : List UInt8) : Nat := l.foldl (fun a c => 10 * a + dv c) 0

theorem get_byte' (s : ByteArray) (k : Nat) (h : k < s.size) : s.data.toList[k]? = some s[k] := by
  rw [List.getElem?_eq_getElem (by simpa using h)]
  rfl
theorem take_byte (s : ByteArray) (k : Nat) (h : k < s.size) : s.data.toList.take (k + 1) = s.data.toList.take k ++ [s[k]] := by
  rw [List.take_add_one, get_byte' s k h]
  rfl
theorem alld_core (s : ByteArray) (w : World) (hs : s.size ≤ 9223372036854775000) (R : Bool) (hR : digs s.data.toList = R) :
    Calls Tryd.prog 24 #[.string s] w fun e w' => e = .returned (.bool R) ∧ w' = w := by
  have HR := hide hR
  clear hR
  have hs' : (s.size : Int) ≤ 9223372036854775000 := by omega
  clear hs
  go_enter Tryd.func24, Tryd.ntmps24
  go_wp2_with fail
  go_loop [3, 6] (fun _ vn => ∃ k : Nat, vn = .int .i64 k ∧ Hid (k ≤ s.size ∧ (s.data.toList.take k).all isDig = true)) (fun _ vn => s.size - (intOf vn).toNat)
  case atStart => exact ⟨0, rfl, hide ⟨by omega, by simp⟩⟩
  case round =>
    obtain ⟨k, rfl, HK⟩ := hrel
    obtain ⟨k1, k2⟩ := HK.out
    clear HK
    by_cases hlt : k < s.size
    · have hlt' : (k : Int) < (s.size : Int) := by omega
      have K := hide k2
      clear k2
      by_cases hd : isDig s[k] = true
      · have K2 := hide hd
        have d1 : ¬ (s[k].toNat : Int) < 48 := by unfold isDig at hd; simp at hd; omega
        have d2 : ¬ (57 : Int) < (s[k].toNat : Int) := by unfold isDig at hd; simp at hd; omega
        clear hd
        go_wp2
        go_round
        case rel => exact ⟨k + 1, by go_num, hide ⟨by omega, by rw [take_byte s k hlt, List.all_append, K.out]; simpa using K2.out⟩⟩
        case measure => simp [intOf]; omega
      · obtain rfl : R = false := by
          rw [← HR.out]
          unfold digs
          rw [Bool.and_eq_false_iff]
          refine Or.inl ?_
          rw [List.all_eq_false]
          exact ⟨s[k], List.mem_iff_getElem?.2 ⟨k, get_byte' s k hlt⟩, hd⟩
        by_cases d1 : (s[k].toNat : Int) < 48
        · clear hd
          go_wp2
          go_ret
          exact ⟨rfl, rfl⟩
        · have d2 : (57 : Int) < (s[k].toNat : Int) := by unfold isDig at hd; simp at hd; omega
          clear hd
          go_wp2
          go_ret
          exact ⟨rfl, rfl⟩
    · have hlt' : ¬ (k : Int) < (s.size : Int) := by omega
      rw [List.take_of_length_le (by rw [size_list]; omega)] at k2
      have hr := HR.out
      unfold digs at hr
      rw [k2] at hr
      clear k2 HR
      by_cases h0 : s.size = 0
      · obtain rfl : s = ⟨#[]⟩ := by
          have := List.eq_nil_of_length_eq_zero (by rw [size_list]; exact h0 : s.data.toList.length = 0)
          cases s with | mk d => cases d with | mk l => simp at this; simp [this]
        obtain rfl : R = false := by rw [← hr]; rfl
        clear hr h0
        go_wp2
        go_ret
        exact ⟨rfl, rfl⟩
      · have hne : s.toList.isEmpty = false := by
          rw [List.isEmpty_eq_false_iff]
          intro h
          apply h0
          rw [← size_list, ← ByteArray.toList_eq, h]
          rfl
        obtain rfl : R = true := by
          rw [← hr, ← ByteArray.toList_eq, hne]; rfl
        clear hr
        go_wp2
        go_ret
        exact ⟨rfl, rfl⟩
theorem alld_any (s : ByteArray) (w : World) (hs : s.size ≤ 9223372036854775000) :
    Calls Tryd.prog 24 #[.string s] w fun e w' => e = .returned (.bool (digs s.data.toList)) ∧ w' = w := alld_core s w hs _ rfl

theorem val_snoc (l : List UInt8) (c : UInt8) : val (l ++ [c]) = 10 * val l + dv c := by simp [val]
theorem dv_le (c : UInt8) (h : isDig c = true) : dv c ≤ 9 ∧ (c.toNat : Int) = 48 + (dv c : Int) := by unfold isDig at h; unfold dv; simp at h; omega
theorem val_lt (l : List UInt8) (h : l.all isDig = true) : val l < 10 ^ l.length := by
  have : ∀ (m : List UInt8), m.all isDig = true → val m.reverse < 10 ^ m.length := by
    intro m
    induction m with
    | nil => intro _; decide
    | cons c m ih =>
      intro h
      simp only [List.all_cons, Bool.and_eq_true] at h
      rw [List.reverse_cons, val_snoc, List.length_cons, Nat.pow_succ]
      have := ih h.2
      have := (dv_le c h.1).1
      omega
  have := this l.reverse (by rw [List.all_reverse]; exact h)
  rwa [List.reverse_reverse, List.length_reverse] at this

theorem whole_core (s : ByteArray) (w : World) (hs : s.size ≤ 8) (hd : s.data.toList.all isDig = true) (R : Nat) (hR : val s.data.toList = R) :
    Calls Tryd.prog 26 #[.string s] w fun e w' => e = .returned (.int .i64 R) ∧ w' = w := by
  have HR := hide hR
  have HD := hide hd
  clear hR hd
  have hs' : (s.size : Int) ≤ 8 := by omega
  go_enter Tryd.func26, Tryd.ntmps26
  go_wp2_with fail
  go_loop [3, 4, 7] (fun vx _ vi => ∃ k v : Nat, vi = .int .i64 k ∧ vx = .int .i64 v ∧ Hid (k ≤ s.size ∧ val (s.data.toList.take k) = v ∧ v < 10 ^ k)) (fun _ _ vi => s.size - (intOf vi).toNat)
  case atStart => exact ⟨0, 0, rfl, rfl, hide ⟨by omega, rfl, by decide⟩⟩
  case round =>
    obtain ⟨k, v, rfl, rfl, HK⟩ := hrel
    obtain ⟨k1, k2, k3⟩ := HK.out
    clear HK
    have K2 := hide k2
    have K3 := hide k3
    by_cases hlt : k < s.size
    · have hlt' : (k : Int) < (s.size : Int) := by omega
      have v1 : (v : Int) ≤ 99999999 := by
        have : 10 ^ k ≤ 10 ^ 8 := Nat.pow_le_pow_right (by decide) (by omega)
        omega
      have hb : isDig s[k] = true := by
        have := HD.out
        rw [List.all_eq_true] at this
        exact this _ (List.mem_iff_getElem?.2 ⟨k, get_byte' s k hlt⟩)
      obtain ⟨d1, d2⟩ := dv_le _ hb
      have T := hide (take_byte s k hlt)
      obtain ⟨d, hd⟩ : ∃ d, dv s[k] = d := ⟨_, rfl⟩
      rw [hd] at d1 d2
      have H := hide hd
      have d3 : (d : Int) ≤ 9 := by omega
      clear k2 k3 hb hd
      go_wp2
      go_round
      case rel =>
        refine ⟨k + 1, 10 * v + d, by go_num, by go_num, hide ⟨by omega, ?_, ?_⟩⟩
        · rw [T.out, val_snoc, K2.out, H.out]
        · have := K3.out
          rw [Nat.pow_succ]
          omega
      case measure => simp [intOf]; omega
    · have hlt' : ¬ (k : Int) < (s.size : Int) := by omega
      obtain rfl : v = R := by
        rw [← K2.out, ← HR.out, List.take_of_length_le (by rw [size_list]; omega)]
      clear k2 k3
      go_wp2
      go_ret
      exact ⟨rfl, rfl⟩
theorem whole_any (s : ByteArray) (w : World) (hs : s.size ≤ 8) (hd : s.data.toList.all isDig = true) :
    Calls Tryd.prog 26 #[.string s] w fun e w' => e = .returned (.int .i64 (val s.data.toList)) ∧ w' = w := whole_core s w hs hd _ rfl
end Go.Proofs.YtdmfmiejjghfnaaDoor
