/-
  Joined: K17B, K17N.
-/
import Derived.Laws.IdiomStrings
import Derived.Lib.Strings
import Derived.Test.YtpmdekhjodhdmaaDoorR00
import Derived.Test.YtpmdekhjodhdmaaDoorR02
import Derived.Test.YtpmdekhjodhdmaaDoorR03
namespace Go.Proofs.YtpmdekhjodhdmaaDoor.K17
open Go.RowKit Go.Proofs.YtpmdekhjodhdmaaDoor
open Go.Lib
set_option linter.unusedVariables false
set_option linter.unusedSimpArgs false
set_option maxRecDepth 8000
theorem ctl_cls (c : Nat) (h : c ≤ 1114111) : (clsV (c : Int) == 4) = ctl c := by
  unfold clsV ctl blkB letB win
  cases hp : isP (c : Int)
  · rw [if_pos rfl]
    have := isP_f.1 hp
    have h2 : 55296 ≤ c := by omega
    rw [decide_eq_false (by omega)]; rfl
  · rw [if_neg (by simp)]
    by_cases h1 : c = 9 ∨ c = 10 ∨ c = 13 ∨ c = 32
    · rw [if_pos (by simp; omega), decide_eq_false (by omega)]; rfl
    · rw [if_neg (by simp; omega)]
      by_cases h2 : (65 ≤ (c : Int) ∧ (c : Int) ≤ 90) ∨ (97 ≤ (c : Int) ∧ (c : Int) ≤ 122) ∨ (192 ≤ (c : Int) ∧ (c : Int) ≤ 255 ∧ (c : Int) ≠ 215 ∧ (c : Int) ≠ 247)
      · rw [if_pos (decide_eq_true h2), decide_eq_false (by omega)]; rfl
      · rw [if_neg (by rw [decide_eq_false h2]; simp)]
        by_cases h3 : 48 ≤ (c : Int) ∧ (c : Int) ≤ 57
        · rw [if_pos (decide_eq_true h3), decide_eq_false (by omega)]; rfl
        · rw [if_neg (by rw [decide_eq_false h3]; simp)]
          by_cases h4 : (c : Int) < 32 ∨ (127 ≤ (c : Int) ∧ (c : Int) ≤ 159)
          · rw [if_pos (by simpa using h4), decide_eq_true (by omega)]; rfl
          · rw [if_neg (by simpa using h4), decide_eq_false (by omega)]; rfl
theorem ctl_any (c : Nat) (w : World) (h : c ≤ 1114111) : Calls Tryd.prog 53 #[.int .i32 (c : Int)] w fun e w' => e = .returned (.bool (ctl c)) ∧ w' = w := by
  have CC := hide (fun w => class_any (c : Int) w)
  rw [← ctl_cls c h]
  have h1 : (c : Int) ≤ 1114111 := by omega
  generalize clsV (c : Int) = V at CC ⊢
  go_enter Tryd.func53, Tryd.ntmps53
  go_wp2_with (go_at_call 70; refine (CC.out _).mono ?_; rintro e w' ⟨rfl, rfl⟩)
  go_ret
  exact ⟨rfl, rfl⟩
def smN (b : Nat) : Bool := decide (97 ≤ b ∧ b ≤ 122)
def nmN (b : Nat) : Bool := smN b || (decide (48 ≤ b ∧ b ≤ 57) || b == 45)
theorem small_any (b : Nat) (w : World) : Calls Tryd.prog 79 #[.int .u8 (b : Int)] w fun e w' => e = .returned (.bool (smN b)) ∧ w' = w := by
  by_cases h1 : (97 : Int) ≤ (b : Int)
  · by_cases h2 : (b : Int) ≤ 122
    · rw [show smN b = true from decide_eq_true (by omega)]
      go_enter Tryd.func79, Tryd.ntmps79
      go_wp2
      go_ret
      exact ⟨rfl, rfl⟩
    · rw [show smN b = false from decide_eq_false (by omega)]
      go_enter Tryd.func79, Tryd.ntmps79
      go_wp2
      go_ret
      exact ⟨rfl, rfl⟩
  · rw [show smN b = false from decide_eq_false (by omega)]
    go_enter Tryd.func79, Tryd.ntmps79
    go_wp2
    go_ret
    exact ⟨rfl, rfl⟩
theorem ofname_any (b : Nat) (w : World) : Calls Tryd.prog 80 #[.int .u8 (b : Int)] w fun e w' => e = .returned (.bool (nmN b)) ∧ w' = w := by
  have CS := hide (fun w => small_any b w)
  unfold nmN
  cases h0 : smN b
  · rw [h0] at CS
    by_cases h1 : (48 : Int) ≤ (b : Int)
    · by_cases h2 : (b : Int) ≤ 57
      · rw [decide_eq_true (show 48 ≤ b ∧ b ≤ 57 by omega)]
        have h2' : decide ((b : Int) ≤ 57) = true := decide_eq_true h2
        clear h0
        go_enter Tryd.func80, Tryd.ntmps80
        go_wp2_with (go_at_call 79; refine (CS.out _).mono ?_; rintro e w1 ⟨rfl, rfl⟩)
        go_ret
        exact ⟨rfl, rfl⟩
      · rw [decide_eq_false (show ¬ (48 ≤ b ∧ b ≤ 57) by omega)]
        have h3 : (b == 45) = false := by rw [beq_eq_false_iff_ne]; omega
        have h4 : ((b : Int) == 45) = false := by rw [beq_eq_false_iff_ne]; omega
        have h2' : decide ((b : Int) ≤ 57) = false := decide_eq_false h2
        rw [h3]
        clear h0
        go_enter Tryd.func80, Tryd.ntmps80
        go_wp2_with (go_at_call 79; refine (CS.out _).mono ?_; rintro e w1 ⟨rfl, rfl⟩)
        go_ret
        exact ⟨by simp only [h2', h4]; rfl, rfl⟩
    · rw [decide_eq_false (show ¬ (48 ≤ b ∧ b ≤ 57) by omega)]
      by_cases h3 : b = 45
      · subst h3
        clear h0 h1
        go_enter Tryd.func80, Tryd.ntmps80
        go_wp2_with (go_at_call 79; refine (CS.out _).mono ?_; rintro e w1 ⟨rfl, rfl⟩)
        go_ret
        exact ⟨rfl, rfl⟩
      · have h4 : ((b : Int) == 45) = false := by rw [beq_eq_false_iff_ne]; omega
        have h5 : (b == 45) = false := by rw [beq_eq_false_iff_ne]; omega
        rw [h5]
        clear h0
        go_enter Tryd.func80, Tryd.ntmps80
        go_wp2_with (go_at_call 79; refine (CS.out _).mono ?_; rintro e w1 ⟨rfl, rfl⟩)
        go_ret
        exact ⟨rfl, rfl⟩
  · rw [h0] at CS
    clear h0
    go_enter Tryd.func80, Tryd.ntmps80
    go_wp2_with (go_at_call 79; refine (CS.out _).mono ?_; rintro e w1 ⟨rfl, rfl⟩)
    go_ret
    exact ⟨rfl, rfl⟩
def nmB (b : UInt8) : Bool := nmN b.toNat
def isN (l : List UInt8) : Bool := !l.isEmpty && (decide (l.length ≤ 16) && (smN (l.getD 0 0).toNat && l.all nmB))
theorem get_b (s : ByteArray) (k : Nat) (h : k < s.size) : s.data.toList[k]? = some s[k] := by
  rw [List.getElem?_eq_getElem (by simpa using h)]; rfl
theorem take_b (s : ByteArray) (k : Nat) (h : k < s.size) : s.data.toList.take (k + 1) = s.data.toList.take k ++ [s[k]] := by
  rw [List.take_add_one, get_b s k h]; rfl
theorem get0 (s : ByteArray) (h : 0 < s.size) : s.data.toList.getD 0 0 = s[0] := by
  rw [List.getD_eq_getElem?_getD, get_b s 0 h]; rfl
theorem size_l (s : ByteArray) : s.data.toList.length = s.size := (Lib.size_eq s).symm
theorem emp_l {s : ByteArray} (h : s.size = 0) : s = ⟨#[]⟩ := by
  cases s with | mk d =>
    have : d.size = 0 := h
    rw [Array.eq_empty_of_size_eq_zero this]
theorem str_eq {s t : ByteArray} : s = t ↔ s.data.toList = t.data.toList := by
  constructor
  · rintro rfl; rfl
  · intro h
    cases s with | mk a => cases t with | mk b => cases a; cases b; simp at h; simp [h]
theorem isname_any (s : ByteArray) (w : World) (hs : s.size ≤ 9223372036854775000) : Calls Tryd.prog 66 #[.string s] w fun e w' => e = .returned (.bool (isN s.data.toList)) ∧ w' = w := by
  have CS := hide small_any
  have CN := hide ofname_any
  have hs' : (s.size : Int) ≤ 9223372036854775000 := by omega
  obtain ⟨R, hR⟩ : ∃ R, isN s.data.toList = R := ⟨_, rfl⟩
  rw [hR]
  unfold isN at hR
  rw [size_l] at hR
  by_cases h0 : s.size = 0
  · obtain rfl := emp_l h0
    subst hR
    clear h0 hs'
    go_enter Tryd.func66, Tryd.ntmps66
    go_wp2
    go_ret
    exact ⟨rfl, rfl⟩
  have hpos : 0 < s.size := by omega
  have hne : (s.toList == []) = false := by
    rw [beq_eq_false_iff_ne, ByteArray.toList_eq]; intro h; have := size_l s; rw [h] at this; simp at this; omega
  rw [get0 s hpos, show s.data.toList.isEmpty = false by rw [List.isEmpty_eq_false_iff]; intro h; have := size_l s; rw [h] at this; simp at this; omega] at hR
  have hpos' : (0 : Int) < (s.size : Int) := by omega
  by_cases h1 : s.size ≤ 16
  · have h1' : ¬ (16 : Int) < (s.size : Int) := by omega
    rw [decide_eq_true h1] at hR
    cases h2 : smN s[0].toNat
    · rw [h2] at hR
      obtain rfl : R = false := by rw [← hR]; rfl
      have C0 := hide (show ∀ w, _ from fun w => CS.out s[0].toNat w)
      rw [h2] at C0
      clear h2 hR CS h0 h1
      go_enter Tryd.func66, Tryd.ntmps66
      go_wp2_with (go_at_call 79; refine (C0.out _).mono ?_; rintro e w1 ⟨rfl, rfl⟩)
      go_ret
      exact ⟨rfl, rfl⟩
    · rw [h2] at hR
      have HR := hide (show s.data.toList.all nmB = R by simpa using hR)
      have C0 := hide (show ∀ w, _ from fun w => CS.out s[0].toNat w)
      rw [h2] at C0
      clear h2 hR CS h0 h1
      go_enter Tryd.func66, Tryd.ntmps66
      go_wp2_with (go_at_call 79; refine (C0.out _).mono ?_; rintro e w1 ⟨rfl, rfl⟩)
      go_loop [3, 19] (fun _ vn => ∃ k : Nat, vn = .int .i64 k ∧ Hid (k ≤ s.size ∧ (s.data.toList.take k).all nmB = true)) (fun _ vn => s.size - (intOf vn).toNat)
      case atStart => exact ⟨0, rfl, hide ⟨by omega, by simp⟩⟩
      case round =>
        obtain ⟨k, rfl, HK⟩ := hrel
        obtain ⟨k1, k2⟩ := HK.out
        clear HK
        by_cases hlt : k < s.size
        · have hlt' : (k : Int) < (s.size : Int) := by omega
          have C1 := hide (show ∀ w, _ from fun w => CN.out s[k].toNat w)
          cases hd : nmN s[k].toNat
          · obtain rfl : R = false := by
              rw [← HR.out, List.all_eq_false]
              exact ⟨s[k], List.mem_iff_getElem?.2 ⟨k, get_b s k hlt⟩, by unfold nmB; rw [hd]; simp⟩
            rw [hd] at C1
            clear hd k2 CN
            go_wp2_with (go_at_call 80; refine (C1.out _).mono ?_; rintro e w1 ⟨rfl, rfl⟩)
            go_ret
            exact ⟨rfl, rfl⟩
          · have K := hide (show (s.data.toList.take (k + 1)).all nmB = true by rw [take_b s k hlt, List.all_append, k2]; simp [nmB, hd])
            rw [hd] at C1
            clear hd k2 CN
            go_wp2_with (go_at_call 80; refine (C1.out _).mono ?_; rintro e w1 ⟨rfl, rfl⟩)
            go_round
            case rel => exact ⟨k + 1, by go_num, hide ⟨by omega, K.out⟩⟩
            case measure => simp [intOf]; omega
        · have hlt' : ¬ (k : Int) < (s.size : Int) := by omega
          rw [List.take_of_length_le (by rw [size_l]; omega)] at k2
          obtain rfl : R = true := by rw [← HR.out, k2]
          clear k2
          go_wp2
          go_ret
          exact ⟨rfl, rfl⟩
  · have h1' : (16 : Int) < (s.size : Int) := by omega
    rw [decide_eq_false h1] at hR
    obtain rfl : R = false := by rw [← hR]; simp
    clear hR h0 h1
    go_enter Tryd.func66, Tryd.ntmps66
    go_wp2
    go_ret
    exact ⟨rfl, rfl⟩
theorem dv_bd (l : List UInt8) (h : l.all dgB = true) (h7 : l.length ≤ 7) : dv l ≤ 9999999 := by
  have h1 := dv_lt l (fun b hb => List.all_eq_true.1 h b hb)
  have h2 : (10 : Nat) ^ l.length ≤ 10 ^ 7 := Nat.pow_le_pow_right (by omega) h7
  have h3 : (10 : Nat) ^ 7 = 10000000 := rfl
  omega
def nuR (o : Option Nat) : Value := .tuple #[.int .i32 ((o.getD 0 : Nat) : Int), .bool o.isSome]
set_option maxHeartbeats 1000000 in
theorem numbered_any (s : ByteArray) (w : World) (hs : s.size ≤ 9223372036854775000) : Calls Tryd.prog 78 #[.string s] w fun e w' => e = .returned (nuR (numW s.data.toList)) ∧ w' = w := by
  have hs' : (s.size : Int) ≤ 9223372036854775000 := by omega
  obtain ⟨R, hR⟩ : ∃ R, numW s.data.toList = R := ⟨_, rfl⟩
  rw [hR]
  unfold numW at hR
  by_cases h0 : s.size = 0
  · obtain rfl := emp_l h0
    rw [if_pos (Or.inl rfl)] at hR
    subst hR
    clear h0 hs'
    go_enter Tryd.func78, Tryd.ntmps78
    go_wp2
    go_ret2
    exact ⟨rfl, rfl⟩
  have hpos : 0 < s.size := by omega
  have hne : (s.toList == []) = false := by
    rw [beq_eq_false_iff_ne, ByteArray.toList_eq]; intro h; have := size_l s; rw [h] at this; simp at this; omega
  have hpos' : (0 : Int) < (s.size : Int) := by omega
  rw [get0 s hpos] at hR
  by_cases h1 : s[0] = 48
  · rw [if_pos (Or.inr (Or.inl h1))] at hR
    have h1' : ((s[0].toNat : Int) == 48) = true := by rw [h1]; rfl
    subst hR
    clear h1 h0
    go_enter Tryd.func78, Tryd.ntmps78
    go_wp2
    go_ret2
    exact ⟨rfl, rfl⟩
  have h1' : ((s[0].toNat : Int) == 48) = false := by
    rw [beq_eq_false_iff_ne]; intro h; apply h1; apply UInt8.toNat_inj.1; show s[0].toNat = 48; omega
  by_cases h2 : 7 < s.size
  · rw [if_pos (Or.inr (Or.inr (Or.inl (by rw [size_l]; exact h2))))] at hR
    have h2' : (7 : Int) < (s.size : Int) := by omega
    subst hR
    clear h1 h0 h2
    go_enter Tryd.func78, Tryd.ntmps78
    go_wp2
    go_ret2
    exact ⟨rfl, rfl⟩
  have h2' : ¬ (7 : Int) < (s.size : Int) := by omega
  have hls : s.data.toList.length ≤ 7 := by rw [size_l]; omega
  have HR := hide hR
  have HL := hide hls
  have HN := hide (show ¬ (s.data.toList = [] ∨ s[0] = 48 ∨ 7 < s.data.toList.length) by
    rintro (h | h | h)
    · have := size_l s; rw [h] at this; simp at this; omega
    · exact h1 h
    · omega)
  clear hR h1 h0 h2 hls
  go_enter Tryd.func78, Tryd.ntmps78
  go_wp2
  go_loop [4, 5, 21] (fun va _ vn => ∃ (k : Nat) (A : Int), vn = .int .i64 k ∧ va = .int .i64 A ∧ Hid (k ≤ s.size ∧ (s.data.toList.take k).all dgB = true ∧ A = ((dv (s.data.toList.take k) : Nat) : Int))) (fun _ _ vn => s.size - (intOf vn).toNat)
  case atStart => exact ⟨0, 0, rfl, rfl, hide ⟨by omega, by simp, by simp [dv]⟩⟩
  case round =>
    obtain ⟨k, A, rfl, rfl, HK⟩ := hrel
    obtain ⟨k1, k2, k3⟩ := HK.out
    clear HK
    have hA : A ≤ 9999999 := by
      have := dv_bd _ k2 (by have := List.length_take_le k s.data.toList; have := HL.out; omega)
      omega
    have hA0 : 0 ≤ A := by omega
    by_cases hlt : k < s.size
    · have hlt' : (k : Int) < (s.size : Int) := by omega
      cases hd : dgB s[k]
      · have HR2 := HR.out
        rw [if_pos (Or.inr (Or.inr (Or.inr (Or.inl (by rw [List.all_eq_false]; exact ⟨s[k], List.mem_iff_getElem?.2 ⟨k, get_b s k hlt⟩, by rw [hd]; simp⟩)))))] at HR2
        subst HR2
        unfold dgB at hd
        have hd' := of_decide_eq_false hd
        clear hd k2 k3
        by_cases d1 : (s[k].toNat : Int) < 48
        · clear hd'
          go_wp2
          go_ret2
          exact ⟨rfl, rfl⟩
        · have d2 : (57 : Int) < (s[k].toNat : Int) := by omega
          clear hd'
          go_wp2
          go_ret2
          exact ⟨rfl, rfl⟩
      · have K2 := hide (show (s.data.toList.take (k + 1)).all dgB = true by rw [take_b s k hlt, List.all_append, k2]; simp [hd])
        have K3 := hide (show 10 * A + ((s[k].toNat : Int) - 48) = ((dv (s.data.toList.take (k + 1)) : Nat) : Int) by
          rw [take_b s k hlt, dv_snoc, k3]
          unfold dgB at hd
          have := of_decide_eq_true hd
          omega)
        unfold dgB at hd
        have hd' := of_decide_eq_true hd
        have d1 : ¬ (s[k].toNat : Int) < 48 := by omega
        have d2 : ¬ (57 : Int) < (s[k].toNat : Int) := by omega
        have d3 : IntKind.u8.wrap ((s[k].toNat : Int) - 48) = (s[k].toNat : Int) - 48 := by rw [IntKind.wrap_u8]; omega
        clear hd hd' k2 k3
        go_wp2
        go_round
        case rel => exact ⟨k + 1, 10 * A + ((s[k].toNat : Int) - 48), by go_num, by go_num, hide ⟨by omega, K2.out, K3.out⟩⟩
        case measure => simp [intOf]; omega
    · have hlt' : ¬ (k : Int) < (s.size : Int) := by omega
      rw [List.take_of_length_le (by rw [size_l]; omega)] at k2 k3
      have hb := dv_bd _ k2 HL.out
      have CC := hide (fun w => class_any A w)
      have hcl : clsV A = 0 ↔ isP A = false := by
        constructor
        · intro h
          cases hp : isP A
          · rfl
          · unfold clsV at h; rw [hp, if_neg (by simp)] at h; repeat' split at h
            all_goals omega
        · intro h; unfold clsV; rw [if_pos h]
      have hR3 := HR.out
      have hall : ∀ P : Prop, (s.data.toList = [] ∨ s[0] = 48 ∨ 7 < s.data.toList.length ∨ s.data.toList.all dgB = false ∨ P) ↔ P := fun P => by
        constructor
        · rintro (h | h | h | h | h)
          · exact absurd (Or.inl h) HN.out
          · exact absurd (Or.inr (Or.inl h)) HN.out
          · exact absurd (Or.inr (Or.inr h)) HN.out
          · rw [k2] at h; cases h
          · exact h
        · exact fun h => Or.inr (Or.inr (Or.inr (Or.inr h)))
      simp only [hall] at hR3
      rw [← k3] at hR3
      have hc4 : isP A = true → ((clsV A == 4) = ctl (dv s.data.toList)) := fun hp => by
        rw [k3]; exact ctl_cls _ (by have := isP_t.1 hp; omega)
      cases hp : isP A
      · rw [if_pos (Or.inl hp)] at hR3
        subst hR3
        rw [hcl.2 hp] at CC
        clear hcl hc4 hp k2 k3 hb hall
        go_wp2_with (go_at_call 70; refine (CC.out _).mono ?_; rintro e w' ⟨rfl, rfl⟩)
        go_ret2
        exact ⟨rfl, rfl⟩
      · have hz : (clsV A == 0) = false := by rw [beq_eq_false_iff_ne]; intro h; rw [hcl.1 h] at hp; cases hp
        have h4 := hc4 hp
        cases hc : ctl (dv s.data.toList)
        · rw [hc] at h4 hR3
          rw [if_neg (by rw [hp]; simp)] at hR3
          subst hR3
          obtain ⟨C, hC⟩ : ∃ C, clsV A = C := ⟨_, rfl⟩
          rw [hC] at CC hz h4
          have K3 := hide k3
          have a1 : IntKind.i32.wrap A = A := by rw [IntKind.wrap_i32]; omega
          clear hcl hc4 hp k2 k3 hb hall hC hc
          go_wp2_with (go_at_call 70; refine (CC.out _).mono ?_; rintro e w' ⟨rfl, rfl⟩)
          go_ret2
          exact ⟨by rw [K3.out]; rfl, rfl⟩
        · rw [hc] at h4 hR3
          rw [if_pos (Or.inr rfl)] at hR3
          subst hR3
          have h5 : clsV A = 4 := by simpa using h4
          rw [h5] at CC
          clear hcl hc4 hp k2 k3 hb hall hc h4 hz h5
          go_wp2_with (go_at_call 70; refine (CC.out _).mono ?_; rintro e w' ⟨rfl, rfl⟩)
          go_ret2
          exact ⟨rfl, rfl⟩
end Go.Proofs.YtpmdekhjodhdmaaDoor.K17
