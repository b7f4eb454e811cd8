/-
  What numbered and entity of marks answer.
-/
import Derived.Test.YtpmdekhjodhdmaaDoorK17B
namespace Go.Proofs.YtpmdekhjodhdmaaDoor.K17
open Go.RowKit Go.Proofs.YtpmdekhjodhdmaaDoor
open Go.Lib
set_option linter.unusedVariables false
set_option linter.unusedSimpArgs false
set_option maxRecDepth 8000

theorem dv_bd (l : List UInt8) (h : l.all dgB = true) (h7 : l.length ≤ 7) : dv l ≤ 9999999 := by
  have h1 := dv_lt l (fun b hb => List.all_eq_true.1 h b hb)
  have h2 : (10 : Nat) ^ l.length ≤ 10 ^ 7 := Nat.pow_le_pow_right (by omega) h7
  have h3 : (10 : Nat) ^ 7 = 10000000 := rfl
  omega
/- a number's place in a pair of results: the character and whether there is one -/
def nuR (o : Option Nat) : Value := .tuple #[.int .i32 ((o.getD 0 : Nat) : Int), .bool o.isSome]
set_option maxHeartbeats 1000000 in
theorem numbered_any (s : ByteArray) (w : World) (hs : s.size ≤ 9223372036854775000) : Calls Tryd.prog 78 #[.string s] w fun e w' => e = .returned (nuR (numW s.data.toList)) ∧ w' = w := by
  have hs' : (s.size : Int) ≤ 9223372036854775000 := by omega
  obtain ⟨R, hR⟩ : ∃ R, numW s.data.toList = R := ⟨_, rfl⟩
  rw [hR]
  unfold numW at hR
  by_cases h0 : s.size = 0
  · obtain rfl := emp_l h0
    rw [if_pos (Or.inl rfl)] at hR
    subst hR
    clear h0 hs'
    go_enter Tryd.func78, Tryd.ntmps78
    go_wp2
    go_ret2
    exact ⟨rfl, rfl⟩
  have hpos : 0 < s.size := by omega
  have hne : (s.toList == []) = false := by
    rw [beq_eq_false_iff_ne, ByteArray.toList_eq]; intro h; have := size_l s; rw [h] at this; simp at this; omega
  have hpos' : (0 : Int) < (s.size : Int) := by omega
  rw [get0 s hpos] at hR
  by_cases h1 : s[0] = 48
  · rw [if_pos (Or.inr (Or.inl h1))] at hR
    have h1' : ((s[0].toNat : Int) == 48) = true := by rw [h1]; rfl
    subst hR
    clear h1 h0
    go_enter Tryd.func78, Tryd.ntmps78
    go_wp2
    go_ret2
    exact ⟨rfl, rfl⟩
  have h1' : ((s[0].toNat : Int) == 48) = false := by
    rw [beq_eq_false_iff_ne]; intro h; apply h1; apply UInt8.toNat_inj.1; show s[0].toNat = 48; omega
  by_cases h2 : 7 < s.size
  · rw [if_pos (Or.inr (Or.inr (Or.inl (by rw [size_l]; exact h2))))] at hR
    have h2' : (7 : Int) < (s.size : Int) := by omega
    subst hR
    clear h1 h0 h2
    go_enter Tryd.func78, Tryd.ntmps78
    go_wp2
    go_ret2
    exact ⟨rfl, rfl⟩
  have h2' : ¬ (7 : Int) < (s.size : Int) := by omega
  have hls : s.data.toList.length ≤ 7 := by rw [size_l]; omega
  have HR := hide hR
  have HL := hide hls
  have HN := hide (show ¬ (s.data.toList = [] ∨ s[0] = 48 ∨ 7 < s.data.toList.length) by
    rintro (h | h | h)
    · have := size_l s; rw [h] at this; simp at this; omega
    · exact h1 h
    · omega)
  clear hR h1 h0 h2 hls
  go_enter Tryd.func78, Tryd.ntmps78
  go_wp2
  go_loop [4, 5, 21] (fun va _ vn => ∃ (k : Nat) (A : Int), vn = .int .i64 k ∧ va = .int .i64 A ∧ Hid (k ≤ s.size ∧ (s.data.toList.take k).all dgB = true ∧ A = ((dv (s.data.toList.take k) : Nat) : Int))) (fun _ _ vn => s.size - (intOf vn).toNat)
  case atStart => exact ⟨0, 0, rfl, rfl, hide ⟨by omega, by simp, by simp [dv]⟩⟩
  case round =>
    obtain ⟨k, A, rfl, rfl, HK⟩ := hrel
    obtain ⟨k1, k2, k3⟩ := HK.out
    clear HK
    have hA : A ≤ 9999999 := by
      have := dv_bd _ k2 (by have := List.length_take_le k s.data.toList; have := HL.out; omega)
      omega
    have hA0 : 0 ≤ A := by omega
    by_cases hlt : k < s.size
    · have hlt' : (k : Int) < (s.size : Int) := by omega
      cases hd : dgB s[k]
      · have HR2 := HR.out
        rw [if_pos (Or.inr (Or.inr (Or.inr (Or.inl (by rw [List.all_eq_false]; exact ⟨s[k], List.mem_iff_getElem?.2 ⟨k, get_b s k hlt⟩, by rw [hd]; simp⟩)))))] at HR2
        subst HR2
        unfold dgB at hd
        have hd' := of_decide_eq_false hd
        clear hd k2 k3
        by_cases d1 : (s[k].toNat : Int) < 48
        · clear hd'
          go_wp2
          go_ret2
          exact ⟨rfl, rfl⟩
        · have d2 : (57 : Int) < (s[k].toNat : Int) := by omega
          clear hd'
          go_wp2
          go_ret2
          exact ⟨rfl, rfl⟩
      · have K2 := hide (show (s.data.toList.take (k + 1)).all dgB = true by rw [take_b s k hlt, List.all_append, k2]; simp [hd])
        have K3 := hide (show 10 * A + ((s[k].toNat : Int) - 48) = ((dv (s.data.toList.take (k + 1)) : Nat) : Int) by
          rw [take_b s k hlt, dv_snoc, k3]
          unfold dgB at hd
          have := of_decide_eq_true hd
          omega)
        unfold dgB at hd
        have hd' := of_decide_eq_true hd
        have d1 : ¬ (s[k].toNat : Int) < 48 := by omega
        have d2 : ¬ (57 : Int) < (s[k].toNat : Int) := by omega
        have d3 : IntKind.u8.wrap ((s[k].toNat : Int) - 48) = (s[k].toNat : Int) - 48 := by rw [IntKind.wrap_u8]; omega
        clear hd hd' k2 k3
        go_wp2
        go_round
        case rel => exact ⟨k + 1, 10 * A + ((s[k].toNat : Int) - 48), by go_num, by go_num, hide ⟨by omega, K2.out, K3.out⟩⟩
        case measure => simp [intOf]; omega
    · have hlt' : ¬ (k : Int) < (s.size : Int) := by omega
      rw [List.take_of_length_le (by rw [size_l]; omega)] at k2 k3
      have hb := dv_bd _ k2 HL.out
      have CC := hide (fun w => class_any A w)
      have hcl : clsV A = 0 ↔ isP A = false := by
        constructor
        · intro h
          cases hp : isP A
          · rfl
          · unfold clsV at h; rw [hp, if_neg (by simp)] at h; repeat' split at h
            all_goals omega
        · intro h; unfold clsV; rw [if_pos h]
      have hR3 := HR.out
      have hall : ∀ P : Prop, (s.data.toList = [] ∨ s[0] = 48 ∨ 7 < s.data.toList.length ∨ s.data.toList.all dgB = false ∨ P) ↔ P := fun P => by
        constructor
        · rintro (h | h | h | h | h)
          · exact absurd (Or.inl h) HN.out
          · exact absurd (Or.inr (Or.inl h)) HN.out
          · exact absurd (Or.inr (Or.inr h)) HN.out
          · rw [k2] at h; cases h
          · exact h
        · exact fun h => Or.inr (Or.inr (Or.inr (Or.inr h)))
      simp only [hall] at hR3
      rw [← k3] at hR3
      have hc4 : isP A = true → ((clsV A == 4) = ctl (dv s.data.toList)) := fun hp => by
        rw [k3]; exact ctl_cls _ (by have := isP_t.1 hp; omega)
      cases hp : isP A
      · rw [if_pos (Or.inl hp)] at hR3
        subst hR3
        rw [hcl.2 hp] at CC
        clear hcl hc4 hp k2 k3 hb hall
        go_wp2_with (go_at_call 70; refine (CC.out _).mono ?_; rintro e w' ⟨rfl, rfl⟩)
        go_ret2
        exact ⟨rfl, rfl⟩
      · have hz : (clsV A == 0) = false := by rw [beq_eq_false_iff_ne]; intro h; rw [hcl.1 h] at hp; cases hp
        have h4 := hc4 hp
        cases hc : ctl (dv s.data.toList)
        · rw [hc] at h4 hR3
          rw [if_neg (by rw [hp]; simp)] at hR3
          subst hR3
          obtain ⟨C, hC⟩ : ∃ C, clsV A = C := ⟨_, rfl⟩
          rw [hC] at CC hz h4
          have K3 := hide k3
          have a1 : IntKind.i32.wrap A = A := by rw [IntKind.wrap_i32]; omega
          clear hcl hc4 hp k2 k3 hb hall hC hc
          go_wp2_with (go_at_call 70; refine (CC.out _).mono ?_; rintro e w' ⟨rfl, rfl⟩)
          go_ret2
          exact ⟨by rw [K3.out]; rfl, rfl⟩
        · rw [hc] at h4 hR3
          rw [if_pos (Or.inr rfl)] at hR3
          subst hR3
          have h5 : clsV A = 4 := by simpa using h4
          rw [h5] at CC
          clear hcl hc4 hp k2 k3 hb hall hc h4 hz h5
          go_wp2_with (go_at_call 70; refine (CC.out _).mono ?_; rintro e w' ⟨rfl, rfl⟩)
          go_ret2
          exact ⟨rfl, rfl⟩
end Go.Proofs.YtpmdekhjodhdmaaDoor.K17
