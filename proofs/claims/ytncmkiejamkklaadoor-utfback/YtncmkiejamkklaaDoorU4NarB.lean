/-
  What utf.Narrow answers.
-/
import Derived.Test.YtncmkiejamkklaaDoorU4Nar
import Derived.Test.YtncmkiejamkklaaDoorU4Row
import Derived.Test.YtncmkiejamkklaaDoorShelf
namespace Go.Proofs.YtncmkiejamkklaaDoor
open Go.RowKit

def narV (l : List UInt8) : List Int × Nat × Nat := if Lib.hasPrefix l [254, 255] then rd st16 (l.drop 2) 2 else ([], 0, 40)
theorem pre_two (l : List UInt8) : Lib.hasPrefix l [254, 255] = true ↔ ∃ r, l = 254 :: 255 :: r := by
  unfold Lib.hasPrefix
  constructor
  · intro h
    match l with
    | [] => simp at h
    | [a] => simp at h
    | a :: b :: r =>
      simp at h
      exact ⟨r, by rw [h.1, h.2]⟩
  · rintro ⟨r, rfl⟩
    simp
theorem st16_le (l : List UInt8) : (st16 l).2 ≤ 4 ∧ ((st16 l).2 ≠ 0 → (st16 l).2 ≤ l.length) := by
  refine ⟨?_, fun h => (code16.good l h).2.2⟩
  unfold st16
  repeat' split
  all_goals (simp only; omega)
theorem st16_c (l : List UInt8) : (st16 l).1 ≤ 1114111 := by
  by_cases h : (st16 l).2 = 0
  · have : (st16 l).1 = 0 := by
      unfold st16 at h ⊢
      repeat' split at h
      all_goals first | (simp at h; done) | skip
      all_goals (repeat' split) <;> first | rfl | omega | simp_all
    omega
  · have := isP_t.1 (code16.good l h).1
    omega
theorem extract_drop (s : ByteArray) (k : Nat) : (s.extract k s.size).data.toList = s.data.toList.drop k := by
  rw [Lib.extract_data]
  exact List.take_of_length_le (by rw [List.length_drop, ← Lib.size_eq]; exact Nat.le_refl _)

theorem new_cell0 (w : World) (v : Value) (t : TypeId) : (w.alloc (.cells #[v] t)).cell? ((⟨w.heap.size, 0, none⟩ : Addr).add 0) = some v := by
  simp [Addr.add]
set_option maxRecDepth 100000 in
set_option maxHeartbeats 1000000 in
theorem nar_core (s : ByteArray) (w : World) (hs : s.size ≤ 65540) (hs0 : s.size ≤ 65536) (ZS : List Int) (P E : Nat) (hR : narV s.data.toList = (ZS, P, E)) :
    Calls Tryd.prog 24 #[.string s] w fun e w' => ∃ v, e = .returned (.tuple #[v, .int .i64 P, .int .i64 E]) ∧ IRow w' w.heap.size v ZS ∧ Below w.heap.size w w' := by
  have hs' : (s.size : Int) ≤ 65536 := by omega
  unfold narV at hR
  have CP : Hid (∀ w, Calls Tryd.prog 36 #[.string s, .string ⟨#[254, 255]⟩] w fun e w' => e = .returned (.bool (Lib.hasPrefix s.data.toList [254, 255])) ∧ w' = w) := fun w => Any.strings_HasPrefix lays99 s ⟨#[254, 255]⟩ w
  cases hp : Lib.hasPrefix s.data.toList [254, 255]
  · rw [hp, if_neg (by simp)] at hR
    simp only [Prod.mk.injEq] at hR
    obtain ⟨rfl, rfl, rfl⟩ := hR
    rw [hp] at CP
    clear hs hs0 hp
    go_enter Tryd.func24, Tryd.ntmps24
    go_wp2_with (go_at_call 36; refine (CP.out _).mono ?_; rintro e w1 ⟨rfl, rfl⟩)
    go_ret3
    exact ⟨_, rfl, IRow.nil _ _, Below.refl _ _⟩
  rw [hp] at CP
  rw [hp, if_pos rfl] at hR
  obtain ⟨r, hr⟩ := (pre_two _).1 hp
  have h2 : 2 ≤ s.size := by rw [Lib.size_eq, hr]; simp
  have HR := hide (show Rd st16 (s.data.toList.drop 2) 2 [] (ZS, P, E) by rw [← hR]; exact Rd.start _ _ _)
  have HS := hide hs0
  have H2 := hide h2
  obtain ⟨i0, hi, hz0, hz1, hz2⟩ := info_parts info_int
  have HI := hide hi
  have HI0 := hide hz0
  have HI1 := hide hz1
  have HI2 := hide hz2
  clear hi hz0 hz1 hz2 hR hs hs0 hr h2 hp
  go_enter Tryd.func24, Tryd.ntmps24
  go_wp2_with (go_at_call 36; refine (CP.out _).mono ?_; rintro e w1 ⟨rfl, rfl⟩)
  go_loopw [5, 6] (fun vl va wr => ∃ (k : Nat) (ys : List Int), va = .int .i64 k ∧ Hid (k ≤ s.size ∧ ys.length ≤ k ∧ IRow wr w1.heap.size vl ys ∧ Rd st16 (s.data.toList.drop k) k ys (ZS, P, E) ∧ Below w1.heap.size w1 wr)) (fun _ va _ => s.size - (intOf va).toNat)
  case atStart => exact ⟨2, [], rfl, hide ⟨H2.out, by simp, IRow.nil _ _, HR.out, Below.refl _ _⟩⟩
  case round =>
    obtain ⟨k, ys, rfl, HK⟩ := hrel
    obtain ⟨k1, k2, k3, k4, k5⟩ := HK.out
    clear HK HR
    by_cases hlt : k < s.size
    · have hlt' : (k : Int) < (s.size : Int) := by omega
      have hne : s.data.toList.drop k ≠ [] := by
        intro h
        have := congrArg List.length h
        rw [List.length_drop, ← Lib.size_eq] at this
        simp at this
        omega
      obtain ⟨⟨c, n⟩, hcn⟩ : ∃ p, st16 (s.data.toList.drop k) = p := ⟨_, rfl⟩
      have b1 := st16_c (s.data.toList.drop k)
      have b2 := st16_le (s.data.toList.drop k)
      rw [List.length_drop, ← Lib.size_eq] at b2
      have ca := narrow_core (s.extract k s.size) wr (by rw [Lib.size_eq, extract_drop, List.length_drop, ← Lib.size_eq]; have := HS.out; omega) c n (by rw [extract_drop]; exact hcn)
      rw [hcn] at b1 b2
      simp only at b1 b2
      have CA := hide ca
      have c1 : (c : Int) ≤ 1114111 := by omega
      have n1 : (n : Int) ≤ 4 := by omega
      have hdd : (s.data.toList.drop k).drop n = s.data.toList.drop (k + n) := by rw [List.drop_drop]
      by_cases h0 : n = 0
      · subst h0
        have he := k4.bad hne (by rw [hcn])
        simp only [Prod.mk.injEq] at he
        obtain ⟨hZ, hP, hE⟩ := he
        replace hP := hP.symm
        subst hZ hP hE
        have K5 := hide k5
        clear ca k2 k3 k4 k5 hcn hne b1 b2 hdd
        go_wp2_with (go_at_call 37; refine CA.out.mono ?_; rintro e w2 ⟨rfl, m, rfl⟩)
        go_ret3
        exact ⟨_, rfl, IRow.nil _ _, below_drewN K5.out m⟩
      · have f0 : ((n : Int) == 0) = false := by rw [beq_eq_false_iff_ne]; omega
        have hstep := k4.step hne (by rw [hcn]; exact h0)
        rw [hcn] at hstep
        simp only at hstep
        rw [hdd] at hstep
        have K2 := hide k2
        have K3 := hide k3
        have K4 := hide hstep
        have K5 := hide k5
        have HB := hide (show 1 ≤ n ∧ k + n ≤ s.size by have := b2.2 h0; omega)
        have n2 : (k : Int) + (n : Int) ≤ 65536 := by have := HB.out; have := HS.out; omega
        clear ca k2 k3 k4 k5 hcn hne b1 b2 hdd hstep h0
        go_wp2_with (first
          | (go_at_call 37; refine CA.out.mono ?_; rintro e w2 ⟨rfl, m, rfl⟩)
          | (at_builtin; refine wpList_append_own _ rfl _ _ 23 rfl w1.heap.size 3 i0 (.int .i64 0) 1 8 Tryd.underlying23 HI.out HI0.out HI1.out HI2.out rfl (by decide) _ _ _ rfl (World.ownsRow.alloc (w := wr.drewN m) K3.out _) ⟨wr.heap.size, 0, none⟩ 1 1 [.int .i64 (c : Int)] rfl rfl ?d1 ?d2 ?d3 ?d4 ?d5 ?_))
        case d1 =>
          intro j u hj
          match j, hj with
          | 0, hj => simp at hj; subst hj; exact new_cell0 (wr.drewN m) _ _
        case d2 => intro u hu; simp at hu; subst hu; rfl
        case d3 => have := K2.out; have := HB.out; have := HS.out; unfold maxLen; omega
        case d4 => have := K2.out; have := HB.out; have := HS.out; omega
        case d5 => simp; have := K5.out.size; omega
        intro v2 w3 hown2 hgrow2 _
        have hB1 : Below w1.heap.size w1 (wr.drewN m) := below_drewN K5.out m
        have HB2 := hide (show Below w1.heap.size w1 w3 from (hB1.alloc hB1.size _).grown hgrow2 (by simp; have := K5.out.size; omega) (fun k hk => (World.ownsRow.lt K3.out k hk).1))
        have HO2 := hide (show IRow w3 w1.heap.size v2 (ys ++ [(c : Int)]) by
          unfold IRow
          rw [List.map_append, List.length_append]
          exact hown2)
        clear hown2 hgrow2
        go_wp2
        go_roundw
        case rel => exact ⟨k + n, ys ++ [(c : Int)], by go_num, hide ⟨HB.out.2, by have := K2.out; have := HB.out; simp; omega, HO2.out, K4.out, HB2.out⟩⟩
        case measure => have := HB.out; simp [intOf]; omega
    · have hlt' : ¬ (k : Int) < (s.size : Int) := by omega
      rw [List.drop_eq_nil_of_le (by rw [← Lib.size_eq]; omega)] at k4
      have he := k4.done
      simp only [Prod.mk.injEq] at he
      obtain ⟨rfl, rfl, rfl⟩ := he
      have K3 := hide k3
      have K5 := hide k5
      clear k2 k3 k4 k5
      go_wp2
      go_ret3
      exact ⟨_, rfl, K3.out, K5.out⟩
end Go.Proofs.YtncmkiejamkklaaDoor
