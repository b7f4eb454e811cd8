/-
  The reference's readers: name, Blank, blanks, controls.
-/
import Derived.Test.YtpmdekhjodhdmaaDoorK17RE
import Derived.Test.YtpmdekhjodhdmaaDoorK17Pp
import Derived.Deep.QuietTactic
import Derived.BigQuiet
namespace Go.Proofs.YtpmdekhjodhdmaaDoor.K17
open Go.RowKit Go.Proofs.YtpmdekhjodhdmaaDoor
open Go.Lib
set_option linter.unusedVariables false
set_option linter.unusedSimpArgs false
set_option maxRecDepth 8000

/- how long a name is that begins here (17: too long) -/
def nmL (q : List UInt8) : Nat := if smN (q.getD 0 0).toNat = true then min 17 (q.takeWhile nmB).length else 0
theorem tw_le (q : List UInt8) (n : Nat) (h : n ≤ q.length) (ha : (q.take n).all nmB = true) : n ≤ (q.takeWhile nmB).length := by
  induction q generalizing n with
  | nil => simp at h; omega
  | cons b r ih =>
    cases n with
    | zero => omega
    | succ n =>
      rw [List.take_succ_cons, List.all_cons, Bool.and_eq_true] at ha
      rw [List.takeWhile_cons, if_pos ha.1, List.length_cons]
      have := ih n (by simpa using h) ha.2
      omega
theorem tw_eq (q : List UInt8) (n : Nat) (ha : (q.take n).all nmB = true) (hn : ∀ b, q[n]? = some b → nmB b = false) (h : n ≤ q.length) : (q.takeWhile nmB).length = n := by
  rw [(tw_take q n ha hn).1, List.length_take]; omega
theorem nmL_17 {q : List UInt8} (h : 17 ≤ q.length) (ha : (q.take 17).all nmB = true) (hs : smN (q.getD 0 0).toNat = true) : nmL q = 17 := by
  unfold nmL
  rw [if_pos hs]
  have := tw_le q 17 h ha
  omega
theorem nmL_end {q : List UInt8} {n : Nat} (h : n ≤ q.length) (h17 : n ≤ 17) (ha : (q.take n).all nmB = true) (hs : 0 < n → smN (q.getD 0 0).toNat = true) (hn : ∀ b, q[n]? = some b → nmB b = false ∨ (n = 0 ∧ smN b.toNat = false)) : nmL q = n := by
  unfold nmL
  by_cases h0 : n = 0
  · subst h0
    cases hq : q[0]? with
    | none =>
      have : q = [] := by
        cases q with
        | nil => rfl
        | cons b r => simp at hq
      subst this
      rfl
    | some b =>
      have hg : q.getD 0 0 = b := by rw [List.getD_eq_getElem?_getD, hq]; rfl
      rw [hg]
      rcases hn b hq with h1 | ⟨_, h1⟩
      · rw [if_neg]
        unfold nmB nmN at h1
        rw [Bool.or_eq_false_iff] at h1
        rw [h1.1]; simp
      · rw [if_neg (by rw [h1]; simp)]
  · rw [if_pos (hs (by omega)), tw_eq q n ha (fun b hb => by
      rcases hn b hb with h1 | ⟨h1, _⟩
      · exact h1
      · exact absurd h1 h0) h]
    omega
theorem nmL_nm (q : List UInt8) : nm q = if 1 ≤ nmL q ∧ nmL q ≤ 16 then some (q.take (nmL q), q.drop (nmL q)) else none := by
  have htk : q.take (q.takeWhile nmB).length = q.takeWhile nmB := by
    have := List.takeWhile_append_dropWhile (p := nmB) (l := q)
    calc q.take (q.takeWhile nmB).length = (q.takeWhile nmB ++ q.dropWhile nmB).take (q.takeWhile nmB).length := by rw [this]
      _ = _ := List.take_left' rfl
  have hdr : q.drop (q.takeWhile nmB).length = q.dropWhile nmB := by
    have := List.takeWhile_append_dropWhile (p := nmB) (l := q)
    calc q.drop (q.takeWhile nmB).length = (q.takeWhile nmB ++ q.dropWhile nmB).drop (q.takeWhile nmB).length := by rw [this]
      _ = _ := List.drop_left' rfl
  have hall : (q.takeWhile nmB).all nmB = true := by
    rw [← htk]
    induction q with
    | nil => rfl
    | cons b r ih =>
      rw [List.takeWhile_cons]
      split
      · rename_i hb
        rw [List.length_cons, List.take_succ_cons, List.all_cons, hb]
        exact ih (by
          have := List.takeWhile_append_dropWhile (p := nmB) (l := r)
          calc r.take (r.takeWhile nmB).length = (r.takeWhile nmB ++ r.dropWhile nmB).take (r.takeWhile nmB).length := by rw [this]
            _ = _ := List.take_left' rfl) (by
          have := List.takeWhile_append_dropWhile (p := nmB) (l := r)
          calc r.drop (r.takeWhile nmB).length = (r.takeWhile nmB ++ r.dropWhile nmB).drop (r.takeWhile nmB).length := by rw [this]
            _ = _ := List.drop_left' rfl)
      · rfl
  have hfst : (q.takeWhile nmB) ≠ [] → (q.takeWhile nmB).getD 0 0 = q.getD 0 0 := fun h => by
    cases q with
    | nil => exact absurd rfl h
    | cons b r =>
      rw [List.takeWhile_cons] at h ⊢
      split
      · rfl
      · rename_i hb; rw [if_neg hb] at h; exact absurd rfl h
  have hsm : smN (q.getD 0 0).toNat = true → (q.takeWhile nmB) ≠ [] := fun h h2 => by
    cases q with
    | nil => exact absurd h (by decide)
    | cons b r =>
      rw [List.takeWhile_cons] at h2
      split at h2
      · simp at h2
      · rename_i hb
        apply hb
        unfold nmB nmN
        rw [show smN b.toNat = true from h]; rfl
  unfold nm nmL
  generalize q.takeWhile nmB = t at *
  generalize q.dropWhile nmB = u at *
  by_cases hs : smN (q.getD 0 0).toNat = true
  · rw [if_pos hs]
    have hne := hsm hs
    have hpos := List.length_pos_iff.2 hne
    by_cases h16 : t.length ≤ 16
    · have hi : isN t = true := by
        unfold isN
        rw [hfst hne, hs, hall, decide_eq_true h16]
        cases t with
        | nil => exact absurd rfl hne
        | cons b r => rfl
      rw [Nat.min_eq_right (by omega), if_pos hi, if_pos ⟨by omega, h16⟩, htk, hdr]
    · have hi : isN t = false := by
        unfold isN
        rw [decide_eq_false h16]
        simp
      rw [Nat.min_eq_left (by omega), hi, if_neg (by simp), if_neg (by omega)]
  · rw [if_neg hs, if_neg (show ¬ (1 ≤ 0 ∧ 0 ≤ 16) by omega), if_neg]
    unfold isN
    intro h
    simp only [Bool.and_eq_true, Bool.not_eq_true'] at h
    have hne : t ≠ [] := by rintro rfl; simp at h
    rw [hfst hne] at h
    exact hs h.2.2.1
theorem drop_get (l : List UInt8) (p n : Nat) : (l.drop p)[n]? = l[p + n]? := by rw [List.getElem?_drop]
set_option maxHeartbeats 4000000 in
theorem rname_any (s : ByteArray) (p : Nat) (w : World) (hs : s.size ≤ 1048576) (hp : p ≤ s.size) :
    Calls Tryd.prog 43 #[.string s, .int .i64 (p : Int)] w fun e w' => e = .returned (.int .i64 (nmL (s.data.toList.drop p) : Nat)) ∧ w' = w := by
  have hs' : (s.size : Int) ≤ 1048576 := by omega
  have hp' : (p : Int) ≤ (s.size : Int) := by omega
  have hl := size_l s
  have hql : (s.data.toList.drop p).length = s.size - p := by rw [List.length_drop, hl]
  have hget : ∀ n (h : p + n < s.size), (s.data.toList.drop p)[n]? = some s[p + n] := fun n h => by rw [drop_get]; exact get_b s (p + n) h
  have hg0 : ∀ (h : p < s.size), (s.data.toList.drop p).getD 0 0 = s[p] := fun h => by
    rw [List.getD_eq_getElem?_getD, drop_get, Nat.add_zero, get_b s p h]; rfl
  obtain ⟨R, hR⟩ : ∃ R, nmL (s.data.toList.drop p) = R := ⟨_, rfl⟩
  rw [hR]
  have HR := hide hR
  have HQ := hide hql
  have HG := hide hget
  have HG0 := hide hg0
  clear hR hql hget hg0 hl hs
  generalize s.data.toList.drop p = q at *
  go_enter Tryd.func43, Tryd.ntmps43
  go_wp2_with fail
  go_loop [5] (fun vn => ∃ n : Nat, vn = .int .i64 n ∧ Hid (n ≤ 17 ∧ p + n ≤ s.size ∧ (q.take n).all nmB = true ∧ (0 < n → smN (q.getD 0 0).toNat = true))) (fun vn => 17 - (RowKit.intOf vn).toNat)
  case atStart => exact ⟨0, rfl, hide ⟨by omega, by omega, by simp, by omega⟩⟩
  case round =>
    obtain ⟨n, rfl, HK⟩ := hrel
    obtain ⟨k1, k2, k3, k4⟩ := HK.out
    clear HK
    have hpn : (p : Int) + (n : Int) ≤ (s.size : Int) := by omega
    have hn17 : (n : Int) ≤ 17 := by omega
    by_cases hlt : p + n < s.size
    · have hlt' : (p : Int) + (n : Int) < (s.size : Int) := by omega
      by_cases h17 : n < 17
      · have h17' : (n : Int) < 17 := by omega
        have hb := HG.out n hlt
        obtain ⟨m, hm⟩ : ∃ m, p + n = m := ⟨_, rfl⟩
        have hm' : (p : Int) + (n : Int) = (m : Int) := by omega
        have HMM := hide hlt
        rw [show s[p + n] = s[m]'(by omega) from by subst hm; rfl] at hb
        have hml : m < s.size := by omega
        have hml' : (m : Int) < (s.size : Int) := by omega
        by_cases c1 : 97 ≤ s[m].toNat
        · have c1' : (97 : Int) ≤ (s[m].toNat : Int) := by omega
          by_cases c2 : s[m].toNat ≤ 122
          · have c2' : (s[m].toNat : Int) ≤ 122 := by omega
            have hfs : smN (q.getD 0 0).toNat = true := by
              by_cases h0 : n = 0
              · subst h0
                rw [List.getD_eq_getElem?_getD, hb]
                simp [smN]; omega
              · exact k4 (by omega)
            have K3 := hide (show (q.take (n + 1)).all nmB = true by rw [List.take_add_one, hb, List.all_append, k3]; simp [nmB, nmN, smN]; omega)
            have K4 := hide (show 0 < n + 1 → smN (q.getD 0 0).toNat = true by intro _; exact hfs)
            clear k3 k4 hb hm
            go_wp2_with fail
            go_round
            case rel => exact ⟨n + 1, by go_num, hide ⟨by omega, by have := HMM.out; omega, K3.out, K4.out⟩⟩
            case measure => simp [RowKit.intOf]; omega
          · have c2' : ¬ (s[m].toNat : Int) ≤ 122 := by omega
            have c3' : (48 : Int) ≤ (s[m].toNat : Int) := by omega
            have c4' : ¬ (s[m].toNat : Int) ≤ 57 := by omega
            have c5' : ((s[m].toNat : Int) == 45) = false := by rw [beq_eq_false_iff_ne]; omega
            by_cases h0 : n = 0
            · subst h0
              obtain rfl : m = p := by omega
              have hr := nmL_end (q := q) (n := 0) (by rw [HQ.out]; omega) k1 k3 k4 (fun c hc => by
                rw [hb] at hc
                injection hc with hc
                rw [← hc]
                exact Or.inr ⟨by omega, by simp [smN]; omega⟩)
              rw [HR.out] at hr
              subst hr
              clear k3 k4 hb hm
              go_wp2_with fail
              go_ret
              exact ⟨rfl, rfl⟩
            · have h0' : (0 : Int) < (n : Int) := by omega
              have hr := nmL_end (q := q) (n := n) (by rw [HQ.out]; omega) k1 k3 k4 (fun c hc => by
                rw [hb] at hc
                injection hc with hc
                rw [← hc]
                exact Or.inl (by simp [nmB, nmN, smN]; omega))
              rw [HR.out] at hr
              subst hr
              clear k3 k4 hb hm
              go_wp2_with fail
              go_ret
              exact ⟨rfl, rfl⟩
        · have c1' : ¬ (97 : Int) ≤ (s[m].toNat : Int) := by omega
          by_cases h0 : n = 0
          · subst h0
            obtain rfl : m = p := by omega
            have hr := nmL_end (q := q) (n := 0) (by rw [HQ.out]; omega) k1 k3 k4 (fun c hc => by
              rw [hb] at hc
              injection hc with hc
              rw [← hc]
              exact Or.inr ⟨by omega, by simp [smN]; omega⟩)
            rw [HR.out] at hr
            subst hr
            clear k3 k4 hb hm
            go_wp2_with fail
            go_ret
            exact ⟨rfl, rfl⟩
          · have h0' : (0 : Int) < (n : Int) := by omega
            have hfs := k4 (by omega)
            by_cases c3 : 48 ≤ s[m].toNat
            · have c3' : (48 : Int) ≤ (s[m].toNat : Int) := by omega
              by_cases c4 : s[m].toNat ≤ 57
              · have c4' : (s[m].toNat : Int) ≤ 57 := by omega
                have K3 := hide (show (q.take (n + 1)).all nmB = true by rw [List.take_add_one, hb, List.all_append, k3]; simp [nmB, nmN, smN]; omega)
                have K4 := hide (show 0 < n + 1 → smN (q.getD 0 0).toNat = true by intro _; exact hfs)
                clear k3 k4 hb hm
                go_wp2_with fail
                go_round
                case rel => exact ⟨n + 1, by go_num, hide ⟨by omega, by have := HMM.out; omega, K3.out, K4.out⟩⟩
                case measure => simp [RowKit.intOf]; omega
              · have c4' : ¬ (s[m].toNat : Int) ≤ 57 := by omega
                have c5' : ((s[m].toNat : Int) == 45) = false := by rw [beq_eq_false_iff_ne]; omega
                have hr := nmL_end (q := q) (n := n) (by rw [HQ.out]; omega) k1 k3 k4 (fun c hc => by
                  rw [hb] at hc
                  injection hc with hc
                  rw [← hc]
                  exact Or.inl (by simp [nmB, nmN, smN]; omega))
                rw [HR.out] at hr
                subst hr
                clear k3 k4 hb hm
                go_wp2_with fail
                go_ret
                exact ⟨rfl, rfl⟩
            · have c3' : ¬ (48 : Int) ≤ (s[m].toNat : Int) := by omega
              by_cases c5 : s[m].toNat = 45
              · have c5' : ((s[m].toNat : Int) == 45) = true := by rw [beq_iff_eq]; omega
                have K3 := hide (show (q.take (n + 1)).all nmB = true by rw [List.take_add_one, hb, List.all_append, k3]; simp [nmB, nmN, smN]; omega)
                have K4 := hide (show 0 < n + 1 → smN (q.getD 0 0).toNat = true by intro _; exact hfs)
                clear k3 k4 hb hm
                go_wp2_with fail
                go_round
                case rel => exact ⟨n + 1, by go_num, hide ⟨by omega, by have := HMM.out; omega, K3.out, K4.out⟩⟩
                case measure => simp [RowKit.intOf]; omega
              · have c5' : ((s[m].toNat : Int) == 45) = false := by rw [beq_eq_false_iff_ne]; omega
                have hr := nmL_end (q := q) (n := n) (by rw [HQ.out]; omega) k1 k3 k4 (fun c hc => by
                  rw [hb] at hc
                  injection hc with hc
                  rw [← hc]
                  exact Or.inl (by simp [nmB, nmN, smN]; omega))
                rw [HR.out] at hr
                subst hr
                clear k3 k4 hb hm
                go_wp2_with fail
                go_ret
                exact ⟨rfl, rfl⟩
      · have h17' : ¬ (n : Int) < 17 := by omega
        obtain rfl : n = 17 := by omega
        have hr := nmL_17 (by rw [HQ.out]; omega) k3 (k4 (by omega))
        rw [HR.out] at hr
        subst hr
        clear k3 k4
        go_wp2_with fail
        go_ret
        exact ⟨rfl, rfl⟩
    · have hlt' : ¬ (p : Int) + (n : Int) < (s.size : Int) := by omega
      have hr := nmL_end (q := q) (n := n) (by rw [HQ.out]; omega) k1 k3 k4 (fun b hb => by
        have := (List.getElem?_eq_some_iff.1 hb).1
        rw [HQ.out] at this
        omega)
      rw [HR.out] at hr
      subst hr
      clear k3 k4
      go_wp2_with fail
      go_ret
      exact ⟨rfl, rfl⟩
end Go.Proofs.YtpmdekhjodhdmaaDoor.K17
