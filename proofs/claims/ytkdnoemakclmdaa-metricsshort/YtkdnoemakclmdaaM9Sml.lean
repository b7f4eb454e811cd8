/-
  What the landed number, signed, says, within and the reference's U2, S2 answer.
-/
import Derived.Test.YtkdnoemakclmdaaM9P
import Derived.Test.YtkdnoemakclmdaaS8Row
import Derived.Laws.BitsLemmas
import Derived.Deep.QuietTactic
import Derived.BigQuiet
import Derived.Deep.RegionHeld3
namespace Go.Proofs.Ytkdnoemakclmdaa
open Go.RowKit Go.Deep
set_option linter.unusedVariables false

theorem or_bytes (x y : Int) (hx0 : 0 ≤ x) (hx : x < 256) (hy0 : 0 ≤ y) (hy : y < 256) : bits .or .i64 (x * 256) y = x * 256 + y :=
  bits_join .i64 62 (by decide) (fun n h0 h1 => by rw [IntKind.wrap_i64]; omega) 8 (x * 256) y (by omega) (by omega) (by omega) hy0 (by omega) (by omega)
theorem getD_at (s : ByteArray) (j : Nat) (h : j < s.size) : s.data.toList.getD j 0 = s[j] := by
  rw [List.getD_eq_getElem?_getD, List.getElem?_eq_getElem (by rw [← Lib.size_eq]; exact h)]
  rfl
theorem bt_at (s : ByteArray) (j : Nat) (h : j < s.size) : bt s.data.toList j = s[j].toNat := by unfold bt; rw [getD_at s j h]
theorem number_any (s : ByteArray) (k : Nat) (z : Int) (w : World) (hz : z = (k : Int)) (h : k + 2 ≤ s.size) (hm : s.size ≤ 1073741824) :
    Calls Try.prog 31 #[.string s, .int .i64 z] w fun e w' => e = .returned (.int .i64 ((n2 s.data.toList k : Nat) : Int)) ∧ ∃ n, w' = w.drewN n := by
  subst hz
  have h0 : (k : Int) < (s.size : Int) := by omega
  have h1 : (k : Int) + 1 < (s.size : Int) := by omega
  have h3 : (s.size : Int) ≤ 1073741824 := by omega
  have h00 : (0 : Int) ≤ (k : Int) := by omega
  have a0 := s[k].toNat_lt
  have a1 := s[k + 1].toNat_lt
  have b0 : (s[k].toNat : Int) ≤ 255 := by omega
  have b1 : (s[k + 1].toNat : Int) ≤ 255 := by omega
  have ho := or_bytes (s[k].toNat : Int) (s[k + 1].toNat : Int) (by omega) (by omega) (by omega) (by omega)
  have HU := hide (show (s[k].toNat : Int) * 256 + (s[k + 1].toNat : Int) = ((n2 s.data.toList k : Nat) : Int) by
    unfold n2
    rw [bt_at s k (by omega), bt_at s (k + 1) (by omega)]
    omega)
  have k0 : IntKind.i64.wrap (s[k].toNat : Int) = (s[k].toNat : Int) := by rw [IntKind.wrap_i64]; omega
  have k1 : IntKind.i64.wrap (s[k + 1].toNat : Int) = (s[k + 1].toNat : Int) := by rw [IntKind.wrap_i64]; omega
  have k2 : IntKind.i64.wrap ((s[k].toNat : Int) * 256) = (s[k].toNat : Int) * 256 := by rw [IntKind.wrap_i64]; omega
  have k3 : ((k : Int) + 1).toNat = k + 1 := by omega
  have k4 : IntKind.i64.wrap ((k : Int) + 1) = (k : Int) + 1 := by rw [IntKind.wrap_i64]; omega
  have h10 : (0 : Int) ≤ (k : Int) + 1 := by omega
  have hu := HU.out
  rw [hu] at ho
  clear a0 a1 hu
  go_enter Try.func31, Try.ntmps31
  go_wp2_with fail
  rename_i q0
  have HA := hide q0
  clear q0
  go_region_held3 (fun _ => True) (first | trivial | go_keep) ((fail))
  all_goals
    refine HA.out _ _ ?_
    go_wp2
    go_ret
    exact ⟨rfl, 1, rfl⟩
theorem wrap_i16 (n : Int) : IntKind.i16.wrap n = (n + 32768) % 65536 - 32768 := by
  simp only [IntKind.wrap, IntKind.bits, IntKind.signed]
  simp
  omega
theorem signed_any (s : ByteArray) (k : Nat) (z : Int) (w : World) (hz : z = (k : Int)) (h : k + 2 ≤ s.size) (hm : s.size ≤ 1073741824) :
    Calls Try.prog 33 #[.string s, .int .i64 z] w fun e w' => e = .returned (.int .i64 (s2 s.data.toList k)) ∧ ∃ n, w' = w.drewN n := by
  have C := hide (number_any s k z w hz h hm)
  have hb := n2_lt s.data.toList k
  have hv : IntKind.i16.wrap ((n2 s.data.toList k : Nat) : Int) = s2 s.data.toList k := by
    rw [wrap_i16]; unfold s2; split <;> omega
  have hs := s2_bd s.data.toList k
  have hw : IntKind.i64.wrap (s2 s.data.toList k) = s2 s.data.toList k := by rw [IntKind.wrap_i64]; omega
  generalize s2 s.data.toList k = S at hv hs hw ⊢
  generalize ((n2 s.data.toList k : Nat) : Int) = N at C hv
  clear hb h hz hm
  go_enter Try.func33, Try.ntmps33
  go_wp2_with (go_at_call 31; refine C.out.mono ?_; rintro e w1 ⟨rfl, n, rfl⟩)
  go_ret
  exact ⟨by simp_all, n, rfl⟩
def eqS (a b : ByteArray) : Bool := a.toList == b.toList
theorem eqS_iff (a b : ByteArray) : eqS a b = true ↔ a = b := by
  unfold eqS
  rw [beq_iff_eq, Lib.toList_data, Lib.toList_data]
  constructor
  · intro h
    cases a with | mk a => cases b with | mk b => simp at h; rw [h]
  · intro h; rw [h]
theorem eqS_no {a b : ByteArray} (h : a ≠ b) : eqS a b = false := by
  cases e : eqS a b with
  | false => rfl
  | true => exact absurd ((eqS_iff a b).1 e) h
theorem says_any (s t : ByteArray) (k : Nat) (z : Int) (w : World) (hz : z = (k : Int)) (h : k + t.size ≤ s.size) (hm : s.size ≤ 1073741824) :
    Calls Try.prog 32 #[.string s, .int .i64 z, .string t] w fun e w' => e = .returned (.bool (eqS (s.extract k (k + t.size)) t)) ∧ w' = w := by
  subst hz
  have h0 : (0 : Int) ≤ (k : Int) := by omega
  have h1 : (k : Int) + (t.size : Int) ≤ (s.size : Int) := by omega
  have h2 : (s.size : Int) ≤ 1073741824 := by omega
  have h3 : (k : Int) ≤ (k : Int) + (t.size : Int) := by omega
  clear h hm
  go_enter Try.func32, Try.ntmps32
  go_wp2_with fail
  go_ret
  exact ⟨rfl, rfl⟩
theorem within_any (lo hi : Int) (a : Option Addr) (zs : List Int) (n c : Nat) (w : World) (hn : zs.length = n) (hm : n ≤ 1073741824) (hL : Lst w a zs) :
    Calls Try.prog 20 #[.int .i64 lo, .int .i64 hi, .slice a n c] w fun e w' => e = .returned (.bool (wiB lo hi zs)) ∧ w' = w := by
  have hm' : (n : Int) ≤ 1073741824 := by omega
  have HL := hide hL
  have HN := hide hn
  clear hL hn hm
  go_enter Try.func20, Try.ntmps20
  go_wp2_with fail
  go_loop [11] (fun vi => ∃ (k : Nat), vi = .int .i64 k ∧ Hid (k ≤ n ∧ ∀ j, j < k → lo ≤ zs.getD j 0 ∧ zs.getD j 0 ≤ hi)) (fun vi => n - (intOf vi).toNat)
  case atStart => exact ⟨0, rfl, hide ⟨by omega, fun j hj => by omega⟩⟩
  case round =>
    obtain ⟨k, rfl, HV⟩ := hrel
    obtain ⟨hk, hv⟩ := HV.out
    have hk0 : (0 : Int) ≤ (k : Int) := by omega
    have HVV := hide hv
    clear HV hv
    by_cases hlt : k < n
    case neg =>
      have hlt' : ¬ (k : Int) < (n : Int) := by omega
      have E : Hid (wiB lo hi zs = true) := hide (wiB_of fun j hj => HVV.out j (by have := HN.out; omega))
      clear HVV
      go_wp2_with fail
      go_ret
      exact ⟨by rw [E.out]; rfl, rfl⟩
    have hlt' : (k : Int) < (n : Int) := by omega
    rcases HL.out with hz | ⟨b, o, rfl, hb, hcell⟩
    · have := HN.out; rw [hz] at this; simp at this; omega
    have hc := hcell k (by have := HN.out; omega)
    have E := hide (fun h => wiB_not (lo := lo) (hi := hi) (zs := zs) (k := k) (by have := HN.out; omega) h)
    have E2 : Hid (∀ x, x = zs.getD k 0 → lo ≤ x ∧ x ≤ hi → ∀ j, j < k + 1 → lo ≤ zs.getD j 0 ∧ zs.getD j 0 ≤ hi) := hide fun x hx h j hj => by
      rcases Nat.lt_or_ge j k with h' | h'
      · exact HVV.out j h'
      · obtain rfl : j = k := by omega
        rw [← hx]; exact h
    have HX : Hid (zs.getD k 0 = zs.getD k 0) := hide rfl
    generalize zs.getD k 0 = x at hc E E2
    clear hcell HVV HX
    by_cases q1 : x < lo
    · have q1' : ¬ lo ≤ x := by omega
      clear E2
      go_wp2_with fail
      go_ret
      exact ⟨by rw [E.out (by omega)]; rfl, rfl⟩
    by_cases q2 : hi < x
    · clear E2
      go_wp2_with fail
      go_ret
      exact ⟨by rw [E.out (by omega)]; rfl, rfl⟩
    go_wp2_with fail
    go_round
    case rel => exact ⟨k + 1, by go_num, hide ⟨by omega, E2.out x rfl (by omega)⟩⟩
    case measure => simp [intOf]; omega
end Go.Proofs.Ytkdnoemakclmdaa
