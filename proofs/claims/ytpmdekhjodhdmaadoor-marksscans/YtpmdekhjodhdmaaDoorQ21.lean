/-
  Joined: K17RE, K17Ra, K17Rb, K17Rc.
-/
import Derived.BigQuiet
import Derived.Deep.QuietTactic
import Derived.Lib.AppendStr
import Derived.Test.YtpmdekhjodhdmaaDoorQ02
import Derived.Test.YtpmdekhjodhdmaaDoorQ06
import Derived.Test.YtpmdekhjodhdmaaDoorQ11
import Derived.Test.YtpmdekhjodhdmaaDoorQ17
import Derived.Test.YtpmdekhjodhdmaaDoorQ18
namespace Go.Proofs.YtpmdekhjodhdmaaDoor.K17
open Go.RowKit Go.Proofs.YtpmdekhjodhdmaaDoor
open Go.Lib
set_option linter.unusedVariables false
set_option linter.unusedSimpArgs false
set_option maxRecDepth 8000
abbrev ez (z : Int) : List UInt8 := es z.toNat
theorem rd_es : ∀ (n : Nat) (l : List UInt8) (p : Nat) (acc ZS : List Int) (P : Nat), l.length ≤ n → Rd st8 l p acc (ZS, P, 0) → ∃ zs, ZS = acc ++ zs ∧ zs.all isP = true ∧ esc l = zs.flatMap ez ∧ hc l = zs.any (fun z => ctl z.toNat)
  | 0, l, p, acc, ZS, P, h, hR => by
    obtain rfl : l = [] := List.length_eq_zero_iff.1 (by omega)
    have := hR.done
    simp only [Prod.mk.injEq] at this
    exact ⟨[], by simp [this.1], rfl, rfl, rfl⟩
  | n + 1, l, p, acc, ZS, P, h, hR => by
    by_cases hl : l = []
    · subst hl
      have := hR.done
      simp only [Prod.mk.injEq] at this
      exact ⟨[], by simp [this.1], rfl, rfl, rfl⟩
    by_cases h0 : (st8 l).2 = 0
    · have := hR.bad hl h0
      simp only [Prod.mk.injEq] at this
      exact absurd this.2.2 (by decide)
    · have hst := hR.step hl h0
      obtain ⟨g1, g2, g3⟩ := code8.good l h0
      have hpos := List.length_pos_iff.2 hl
      obtain ⟨zs, e1, e2, e3, e4⟩ := rd_es n (l.drop (st8 l).2) _ _ ZS P (by rw [List.length_drop]; omega) hst
      have hd := st_dN h0
      refine ⟨((st8 l).1 : Int) :: zs, by rw [e1, List.append_assoc]; rfl, by rw [List.all_cons, e2, g1]; rfl, ?_, ?_⟩
      · rw [esc_step l hl, hd, e3]; rfl
      · rw [hc_step l hl, hd, e4]; rfl
theorem rd_esc {l : List UInt8} {ZS : List Int} {P : Nat} (h : rd st8 l 0 = (ZS, P, 0)) : ZS.all isP = true ∧ esc l = ZS.flatMap ez ∧ hc l = ZS.any (fun z => ctl z.toNat) := by
  obtain ⟨zs, e1, e2, e3, e4⟩ := rd_es l.length l 0 [] ZS P (Nat.le_refl _) (by rw [← h]; exact Rd.start _ _ _)
  rw [List.nil_append] at e1
  subst e1
  exact ⟨e2, e3, e4⟩
def nmL (q : List UInt8) : Nat := if smN (q.getD 0 0).toNat = true then min 17 (q.takeWhile nmB).length else 0
theorem tw_le (q : List UInt8) (n : Nat) (h : n ≤ q.length) (ha : (q.take n).all nmB = true) : n ≤ (q.takeWhile nmB).length := by
  induction q generalizing n with
  | nil => simp at h; omega
  | cons b r ih =>
    cases n with
    | zero => omega
    | succ n =>
      rw [List.take_succ_cons, List.all_cons, Bool.and_eq_true] at ha
      rw [List.takeWhile_cons, if_pos ha.1, List.length_cons]
      have := ih n (by simpa using h) ha.2
      omega
theorem tw_eq (q : List UInt8) (n : Nat) (ha : (q.take n).all nmB = true) (hn : ∀ b, q[n]? = some b → nmB b = false) (h : n ≤ q.length) : (q.takeWhile nmB).length = n := by
  rw [(tw_take q n ha hn).1, List.length_take]; omega
theorem nmL_17 {q : List UInt8} (h : 17 ≤ q.length) (ha : (q.take 17).all nmB = true) (hs : smN (q.getD 0 0).toNat = true) : nmL q = 17 := by
  unfold nmL
  rw [if_pos hs]
  have := tw_le q 17 h ha
  omega
theorem nmL_end {q : List UInt8} {n : Nat} (h : n ≤ q.length) (h17 : n ≤ 17) (ha : (q.take n).all nmB = true) (hs : 0 < n → smN (q.getD 0 0).toNat = true) (hn : ∀ b, q[n]? = some b → nmB b = false ∨ (n = 0 ∧ smN b.toNat = false)) : nmL q = n := by
  unfold nmL
  by_cases h0 : n = 0
  · subst h0
    cases hq : q[0]? with
    | none =>
      have : q = [] := by
        cases q with
        | nil => rfl
        | cons b r => simp at hq
      subst this
      rfl
    | some b =>
      have hg : q.getD 0 0 = b := by rw [List.getD_eq_getElem?_getD, hq]; rfl
      rw [hg]
      rcases hn b hq with h1 | ⟨_, h1⟩
      · rw [if_neg]
        unfold nmB nmN at h1
        rw [Bool.or_eq_false_iff] at h1
        rw [h1.1]; simp
      · rw [if_neg (by rw [h1]; simp)]
  · rw [if_pos (hs (by omega)), tw_eq q n ha (fun b hb => by
      rcases hn b hb with h1 | ⟨h1, _⟩
      · exact h1
      · exact absurd h1 h0) h]
    omega
theorem nmL_nm (q : List UInt8) : nm q = if 1 ≤ nmL q ∧ nmL q ≤ 16 then some (q.take (nmL q), q.drop (nmL q)) else none := by
  have htk : q.take (q.takeWhile nmB).length = q.takeWhile nmB := by
    have := List.takeWhile_append_dropWhile (p := nmB) (l := q)
    calc q.take (q.takeWhile nmB).length = (q.takeWhile nmB ++ q.dropWhile nmB).take (q.takeWhile nmB).length := by rw [this]
      _ = _ := List.take_left' rfl
  have hdr : q.drop (q.takeWhile nmB).length = q.dropWhile nmB := by
    have := List.takeWhile_append_dropWhile (p := nmB) (l := q)
    calc q.drop (q.takeWhile nmB).length = (q.takeWhile nmB ++ q.dropWhile nmB).drop (q.takeWhile nmB).length := by rw [this]
      _ = _ := List.drop_left' rfl
  have hall : (q.takeWhile nmB).all nmB = true := by
    rw [← htk]
    induction q with
    | nil => rfl
    | cons b r ih =>
      rw [List.takeWhile_cons]
      split
      · rename_i hb
        rw [List.length_cons, List.take_succ_cons, List.all_cons, hb]
        exact ih (by
          have := List.takeWhile_append_dropWhile (p := nmB) (l := r)
          calc r.take (r.takeWhile nmB).length = (r.takeWhile nmB ++ r.dropWhile nmB).take (r.takeWhile nmB).length := by rw [this]
            _ = _ := List.take_left' rfl) (by
          have := List.takeWhile_append_dropWhile (p := nmB) (l := r)
          calc r.drop (r.takeWhile nmB).length = (r.takeWhile nmB ++ r.dropWhile nmB).drop (r.takeWhile nmB).length := by rw [this]
            _ = _ := List.drop_left' rfl)
      · rfl
  have hfst : (q.takeWhile nmB) ≠ [] → (q.takeWhile nmB).getD 0 0 = q.getD 0 0 := fun h => by
    cases q with
    | nil => exact absurd rfl h
    | cons b r =>
      rw [List.takeWhile_cons] at h ⊢
      split
      · rfl
      · rename_i hb; rw [if_neg hb] at h; exact absurd rfl h
  have hsm : smN (q.getD 0 0).toNat = true → (q.takeWhile nmB) ≠ [] := fun h h2 => by
    cases q with
    | nil => exact absurd h (by decide)
    | cons b r =>
      rw [List.takeWhile_cons] at h2
      split at h2
      · simp at h2
      · rename_i hb
        apply hb
        unfold nmB nmN
        rw [show smN b.toNat = true from h]; rfl
  unfold nm nmL
  generalize q.takeWhile nmB = t at *
  generalize q.dropWhile nmB = u at *
  by_cases hs : smN (q.getD 0 0).toNat = true
  · rw [if_pos hs]
    have hne := hsm hs
    have hpos := List.length_pos_iff.2 hne
    by_cases h16 : t.length ≤ 16
    · have hi : isN t = true := by
        unfold isN
        rw [hfst hne, hs, hall, decide_eq_true h16]
        cases t with
        | nil => exact absurd rfl hne
        | cons b r => rfl
      rw [Nat.min_eq_right (by omega), if_pos hi, if_pos ⟨by omega, h16⟩, htk, hdr]
    · have hi : isN t = false := by
        unfold isN
        rw [decide_eq_false h16]
        simp
      rw [Nat.min_eq_left (by omega), hi, if_neg (by simp), if_neg (by omega)]
  · rw [if_neg hs, if_neg (show ¬ (1 ≤ 0 ∧ 0 ≤ 16) by omega), if_neg]
    unfold isN
    intro h
    simp only [Bool.and_eq_true, Bool.not_eq_true'] at h
    have hne : t ≠ [] := by rintro rfl; simp at h
    rw [hfst hne] at h
    exact hs h.2.2.1
theorem drop_get (l : List UInt8) (p n : Nat) : (l.drop p)[n]? = l[p + n]? := by rw [List.getElem?_drop]
set_option maxHeartbeats 4000000 in
theorem rname_any (s : ByteArray) (p : Nat) (w : World) (hs : s.size ≤ 1048576) (hp : p ≤ s.size) :
    Calls Tryd.prog 43 #[.string s, .int .i64 (p : Int)] w fun e w' => e = .returned (.int .i64 (nmL (s.data.toList.drop p) : Nat)) ∧ w' = w := by
  have hs' : (s.size : Int) ≤ 1048576 := by omega
  have hp' : (p : Int) ≤ (s.size : Int) := by omega
  have hl := size_l s
  have hql : (s.data.toList.drop p).length = s.size - p := by rw [List.length_drop, hl]
  have hget : ∀ n (h : p + n < s.size), (s.data.toList.drop p)[n]? = some s[p + n] := fun n h => by rw [drop_get]; exact get_b s (p + n) h
  have hg0 : ∀ (h : p < s.size), (s.data.toList.drop p).getD 0 0 = s[p] := fun h => by
    rw [List.getD_eq_getElem?_getD, drop_get, Nat.add_zero, get_b s p h]; rfl
  obtain ⟨R, hR⟩ : ∃ R, nmL (s.data.toList.drop p) = R := ⟨_, rfl⟩
  rw [hR]
  have HR := hide hR
  have HQ := hide hql
  have HG := hide hget
  have HG0 := hide hg0
  clear hR hql hget hg0 hl hs
  generalize s.data.toList.drop p = q at *
  go_enter Tryd.func43, Tryd.ntmps43
  go_wp2_with fail
  go_loop [5] (fun vn => ∃ n : Nat, vn = .int .i64 n ∧ Hid (n ≤ 17 ∧ p + n ≤ s.size ∧ (q.take n).all nmB = true ∧ (0 < n → smN (q.getD 0 0).toNat = true))) (fun vn => 17 - (RowKit.intOf vn).toNat)
  case atStart => exact ⟨0, rfl, hide ⟨by omega, by omega, by simp, by omega⟩⟩
  case round =>
    obtain ⟨n, rfl, HK⟩ := hrel
    obtain ⟨k1, k2, k3, k4⟩ := HK.out
    clear HK
    have hpn : (p : Int) + (n : Int) ≤ (s.size : Int) := by omega
    have hn17 : (n : Int) ≤ 17 := by omega
    by_cases hlt : p + n < s.size
    · have hlt' : (p : Int) + (n : Int) < (s.size : Int) := by omega
      by_cases h17 : n < 17
      · have h17' : (n : Int) < 17 := by omega
        have hb := HG.out n hlt
        obtain ⟨m, hm⟩ : ∃ m, p + n = m := ⟨_, rfl⟩
        have hm' : (p : Int) + (n : Int) = (m : Int) := by omega
        have HMM := hide hlt
        rw [show s[p + n] = s[m]'(by omega) from by subst hm; rfl] at hb
        have hml : m < s.size := by omega
        have hml' : (m : Int) < (s.size : Int) := by omega
        by_cases c1 : 97 ≤ s[m].toNat
        · have c1' : (97 : Int) ≤ (s[m].toNat : Int) := by omega
          by_cases c2 : s[m].toNat ≤ 122
          · have c2' : (s[m].toNat : Int) ≤ 122 := by omega
            have hfs : smN (q.getD 0 0).toNat = true := by
              by_cases h0 : n = 0
              · subst h0
                rw [List.getD_eq_getElem?_getD, hb]
                simp [smN]; omega
              · exact k4 (by omega)
            have K3 := hide (show (q.take (n + 1)).all nmB = true by rw [List.take_add_one, hb, List.all_append, k3]; simp [nmB, nmN, smN]; omega)
            have K4 := hide (show 0 < n + 1 → smN (q.getD 0 0).toNat = true by intro _; exact hfs)
            clear k3 k4 hb hm
            go_wp2_with fail
            go_round
            case rel => exact ⟨n + 1, by go_num, hide ⟨by omega, by have := HMM.out; omega, K3.out, K4.out⟩⟩
            case measure => simp [RowKit.intOf]; omega
          · have c2' : ¬ (s[m].toNat : Int) ≤ 122 := by omega
            have c3' : (48 : Int) ≤ (s[m].toNat : Int) := by omega
            have c4' : ¬ (s[m].toNat : Int) ≤ 57 := by omega
            have c5' : ((s[m].toNat : Int) == 45) = false := by rw [beq_eq_false_iff_ne]; omega
            by_cases h0 : n = 0
            · subst h0
              obtain rfl : m = p := by omega
              have hr := nmL_end (q := q) (n := 0) (by rw [HQ.out]; omega) k1 k3 k4 (fun c hc => by
                rw [hb] at hc
                injection hc with hc
                rw [← hc]
                exact Or.inr ⟨by omega, by simp [smN]; omega⟩)
              rw [HR.out] at hr
              subst hr
              clear k3 k4 hb hm
              go_wp2_with fail
              go_ret
              exact ⟨rfl, rfl⟩
            · have h0' : (0 : Int) < (n : Int) := by omega
              have hr := nmL_end (q := q) (n := n) (by rw [HQ.out]; omega) k1 k3 k4 (fun c hc => by
                rw [hb] at hc
                injection hc with hc
                rw [← hc]
                exact Or.inl (by simp [nmB, nmN, smN]; omega))
              rw [HR.out] at hr
              subst hr
              clear k3 k4 hb hm
              go_wp2_with fail
              go_ret
              exact ⟨rfl, rfl⟩
        · have c1' : ¬ (97 : Int) ≤ (s[m].toNat : Int) := by omega
          by_cases h0 : n = 0
          · subst h0
            obtain rfl : m = p := by omega
            have hr := nmL_end (q := q) (n := 0) (by rw [HQ.out]; omega) k1 k3 k4 (fun c hc => by
              rw [hb] at hc
              injection hc with hc
              rw [← hc]
              exact Or.inr ⟨by omega, by simp [smN]; omega⟩)
            rw [HR.out] at hr
            subst hr
            clear k3 k4 hb hm
            go_wp2_with fail
            go_ret
            exact ⟨rfl, rfl⟩
          · have h0' : (0 : Int) < (n : Int) := by omega
            have hfs := k4 (by omega)
            by_cases c3 : 48 ≤ s[m].toNat
            · have c3' : (48 : Int) ≤ (s[m].toNat : Int) := by omega
              by_cases c4 : s[m].toNat ≤ 57
              · have c4' : (s[m].toNat : Int) ≤ 57 := by omega
                have K3 := hide (show (q.take (n + 1)).all nmB = true by rw [List.take_add_one, hb, List.all_append, k3]; simp [nmB, nmN, smN]; omega)
                have K4 := hide (show 0 < n + 1 → smN (q.getD 0 0).toNat = true by intro _; exact hfs)
                clear k3 k4 hb hm
                go_wp2_with fail
                go_round
                case rel => exact ⟨n + 1, by go_num, hide ⟨by omega, by have := HMM.out; omega, K3.out, K4.out⟩⟩
                case measure => simp [RowKit.intOf]; omega
              · have c4' : ¬ (s[m].toNat : Int) ≤ 57 := by omega
                have c5' : ((s[m].toNat : Int) == 45) = false := by rw [beq_eq_false_iff_ne]; omega
                have hr := nmL_end (q := q) (n := n) (by rw [HQ.out]; omega) k1 k3 k4 (fun c hc => by
                  rw [hb] at hc
                  injection hc with hc
                  rw [← hc]
                  exact Or.inl (by simp [nmB, nmN, smN]; omega))
                rw [HR.out] at hr
                subst hr
                clear k3 k4 hb hm
                go_wp2_with fail
                go_ret
                exact ⟨rfl, rfl⟩
            · have c3' : ¬ (48 : Int) ≤ (s[m].toNat : Int) := by omega
              by_cases c5 : s[m].toNat = 45
              · have c5' : ((s[m].toNat : Int) == 45) = true := by rw [beq_iff_eq]; omega
                have K3 := hide (show (q.take (n + 1)).all nmB = true by rw [List.take_add_one, hb, List.all_append, k3]; simp [nmB, nmN, smN]; omega)
                have K4 := hide (show 0 < n + 1 → smN (q.getD 0 0).toNat = true by intro _; exact hfs)
                clear k3 k4 hb hm
                go_wp2_with fail
                go_round
                case rel => exact ⟨n + 1, by go_num, hide ⟨by omega, by have := HMM.out; omega, K3.out, K4.out⟩⟩
                case measure => simp [RowKit.intOf]; omega
              · have c5' : ((s[m].toNat : Int) == 45) = false := by rw [beq_eq_false_iff_ne]; omega
                have hr := nmL_end (q := q) (n := n) (by rw [HQ.out]; omega) k1 k3 k4 (fun c hc => by
                  rw [hb] at hc
                  injection hc with hc
                  rw [← hc]
                  exact Or.inl (by simp [nmB, nmN, smN]; omega))
                rw [HR.out] at hr
                subst hr
                clear k3 k4 hb hm
                go_wp2_with fail
                go_ret
                exact ⟨rfl, rfl⟩
      · have h17' : ¬ (n : Int) < 17 := by omega
        obtain rfl : n = 17 := by omega
        have hr := nmL_17 (by rw [HQ.out]; omega) k3 (k4 (by omega))
        rw [HR.out] at hr
        subst hr
        clear k3 k4
        go_wp2_with fail
        go_ret
        exact ⟨rfl, rfl⟩
    · have hlt' : ¬ (p : Int) + (n : Int) < (s.size : Int) := by omega
      have hr := nmL_end (q := q) (n := n) (by rw [HQ.out]; omega) k1 k3 k4 (fun b hb => by
        have := (List.getElem?_eq_some_iff.1 hb).1
        rw [HQ.out] at this
        omega)
      rw [HR.out] at hr
      subst hr
      clear k3 k4
      go_wp2_with fail
      go_ret
      exact ⟨rfl, rfl⟩
theorem blB_nat (b : UInt8) : blB b = (b.toNat == 9 || (b.toNat == 10 || (b.toNat == 13 || b.toNat == 32))) := by
  have e : ∀ n : Nat, n < 256 → ((b == UInt8.ofNat n) = (b.toNat == n)) := fun n hn => by
    rw [Bool.eq_iff_iff, beq_iff_eq, beq_iff_eq]
    constructor
    · intro h; rw [h]; exact bt_nat n hn
    · intro h; exact (bt_eq h.symm).symm
  have h9 := e 9 (by omega); have h10 := e 10 (by omega); have h13 := e 13 (by omega); have h32 := e 32 (by omega)
  unfold blB
  rw [← h9, ← h10, ← h13, ← h32]
  simp only [List.contains_cons, List.contains_nil, Bool.or_false]
  rfl
set_option maxHeartbeats 1000000 in
theorem rblank_any (b : UInt8) (w : World) : Calls Tryd.prog 63 #[.int .u8 (b.toNat : Int)] w fun e w' => e = .returned (.bool (blB b)) ∧ w' = w := by
  rw [blB_nat]
  generalize b.toNat = n
  by_cases h1 : n = 9
  · subst h1
    go_enter Tryd.func63, Tryd.ntmps63
    go_wp2
    go_ret
    exact ⟨rfl, rfl⟩
  have f1 : ((n : Int) == 9) = false := by rw [beq_eq_false_iff_ne]; omega
  have g1 : (n == 9) = false := by rw [beq_eq_false_iff_ne]; omega
  rw [g1]
  by_cases h2 : n = 10
  · subst h2
    clear h1 f1 g1
    go_enter Tryd.func63, Tryd.ntmps63
    go_wp2
    go_ret
    exact ⟨rfl, rfl⟩
  have f2 : ((n : Int) == 10) = false := by rw [beq_eq_false_iff_ne]; omega
  have g2 : (n == 10) = false := by rw [beq_eq_false_iff_ne]; omega
  rw [g2]
  by_cases h3 : n = 13
  · subst h3
    clear h1 f1 g1 h2 f2 g2
    go_enter Tryd.func63, Tryd.ntmps63
    go_wp2
    go_ret
    exact ⟨rfl, rfl⟩
  have f3 : ((n : Int) == 13) = false := by rw [beq_eq_false_iff_ne]; omega
  have g3 : (n == 13) = false := by rw [beq_eq_false_iff_ne]; omega
  rw [g3]
  by_cases h4 : n = 32
  · subst h4
    clear h1 f1 g1 h2 f2 g2 h3 f3 g3
    go_enter Tryd.func63, Tryd.ntmps63
    go_wp2
    go_ret
    exact ⟨rfl, rfl⟩
  have f4 : ((n : Int) == 32) = false := by rw [beq_eq_false_iff_ne]; omega
  have g4 : (n == 32) = false := by rw [beq_eq_false_iff_ne]; omega
  rw [g4]
  clear h1 g1 h2 g2 h3 g3 h4 g4
  go_enter Tryd.func63, Tryd.ntmps63
  go_wp2
  go_ret
  exact ⟨rfl, rfl⟩
def bkP (l : List UInt8) (p : Nat) : Nat := l.length - (bk (l.drop p)).length
theorem bkP_le (l : List UInt8) (p : Nat) (hp : p ≤ l.length) : p ≤ bkP l p ∧ bkP l p ≤ l.length ∧ l.drop (bkP l p) = bk (l.drop p) := by
  have h1 := bk_le (l.drop p)
  rw [List.length_drop] at h1
  refine ⟨by unfold bkP; omega, by unfold bkP; omega, ?_⟩
  exact suf_drop ((bk_suf _).trans (List.drop_suffix _ _))
theorem bkP_step (l : List UInt8) (p : Nat) (hp : p < l.length) (hb : blB l[p] = true) : bkP l (p + 1) = bkP l p := by
  unfold bkP
  rw [List.drop_eq_getElem_cons hp, bk_b _ hb]
where bk_b {b : UInt8} (r : List UInt8) (h : blB b = true) : bk (b :: r) = bk r := by unfold bk; rw [List.dropWhile_cons, if_pos h]
theorem bkP_stop (l : List UInt8) (p : Nat) (hp : p < l.length) (hb : blB l[p] = false) : bkP l p = p := by
  unfold bkP bk
  rw [List.drop_eq_getElem_cons hp, List.dropWhile_cons, if_neg (by rw [hb]; simp), List.length_cons, List.length_drop]
  omega
theorem bkP_end (l : List UInt8) : bkP l l.length = l.length := by
  unfold bkP; rw [List.drop_length]; rfl
set_option maxHeartbeats 1000000 in
theorem rblanks_any (s : ByteArray) (p : Nat) (w : World) (hs : s.size ≤ 1048576) (hp : p ≤ s.size) :
    Calls Tryd.prog 44 #[.string s, .int .i64 (p : Int)] w fun e w' => e = .returned (.int .i64 (bkP s.data.toList p : Nat)) ∧ w' = w := by
  have hs' : (s.size : Int) ≤ 1048576 := by omega
  have hl := size_l s
  have CB := hide rblank_any
  obtain ⟨R, hR⟩ : ∃ R, bkP s.data.toList p = R := ⟨_, rfl⟩
  rw [hR]
  have HR := hide hR
  have HL := hide hl
  have hpi : (p : Int) ≤ (s.size : Int) := by omega
  clear hR hl hs
  go_enter Tryd.func44, Tryd.ntmps44
  go_wp2_with fail
  go_loop [1] (fun vn => ∃ n : Nat, vn = .int .i64 n ∧ Hid (n ≤ s.size ∧ bkP s.data.toList n = R)) (fun vn => s.size - (RowKit.intOf vn).toNat)
  case atStart => exact ⟨p, rfl, hide ⟨by omega, HR.out⟩⟩
  case round =>
    obtain ⟨n, rfl, HK⟩ := hrel
    obtain ⟨k1, k2⟩ := HK.out
    clear HK
    by_cases hlt : n < s.size
    · have hlt' : (n : Int) < (s.size : Int) := by omega
      have C1 := hide (show ∀ w, _ from fun w => CB.out s[n] w)
      have hge : s.data.toList[n]'(by rw [HL.out]; exact hlt) = s[n] := rfl
      cases hb : blB s[n]
      · rw [hb] at C1
        have := bkP_stop s.data.toList n (by rw [HL.out]; exact hlt) (by rw [hge]; exact hb)
        rw [k2] at this
        subst this
        clear hb hge k2 CB
        go_wp2_with (go_at_call 63; refine (C1.out _).mono ?_; rintro e w1 ⟨rfl, rfl⟩)
        go_ret
        exact ⟨rfl, rfl⟩
      · rw [hb] at C1
        have K2 := hide (show bkP s.data.toList (n + 1) = R by rw [bkP_step _ _ (by rw [HL.out]; exact hlt) (by rw [hge]; exact hb)]; exact k2)
        clear hb hge k2 CB
        go_wp2_with (go_at_call 63; refine (C1.out _).mono ?_; rintro e w1 ⟨rfl, rfl⟩)
        go_round
        case rel => exact ⟨n + 1, by go_num, hide ⟨by omega, K2.out⟩⟩
        case measure => simp [RowKit.intOf]; omega
    · have hlt' : ¬ (n : Int) < (s.size : Int) := by omega
      obtain rfl : n = s.size := by omega
      have := bkP_end s.data.toList
      rw [HL.out, k2] at this
      subst this
      clear k2
      go_wp2_with fail
      go_ret
      exact ⟨rfl, rfl⟩
set_option maxHeartbeats 2000000 in
theorem rcontrols_any (s : ByteArray) (p q : Nat) (w : World) (hs : s.size ≤ 65536) (hpq : p ≤ q) (hq : q ≤ s.size) (hv : Vt ((s.data.toList.drop p).take (q - p))) :
    Calls Tryd.prog 45 #[.string s, .int .i64 (p : Int), .int .i64 (q : Int)] w fun e w' => e = .returned (.bool (hc ((s.data.toList.drop p).take (q - p)))) ∧ Below w.heap.size w w' := by
  have hx : (s.extract p q).data.toList = (s.data.toList.drop p).take (q - p) := by rw [Lib.extract_data]
  have hxz : (s.extract p q).size ≤ 65536 := by rw [ByteArray.size_extract]; omega
  obtain ⟨⟨ZS, P, E⟩, hrd⟩ : ∃ r, rd st8 ((s.data.toList.drop p).take (q - p)) 0 = r := ⟨_, rfl⟩
  have hrx : rd st8 (s.extract p q).data.toList 0 = (ZS, P, E) := by rw [hx]; exact hrd
  have CD := hide (rdecode_core (s.extract p q) w hxz ZS P E hrx)
  have hn := rd_len st8 (s.extract p q).data.toList 0
  rw [hrx] at hn
  simp only at hn
  rw [size_l] at hn
  have hE := (rd_vt ((s.data.toList.drop p).take (q - p))).2.2 hv
  rw [hrd] at hE
  simp only at hE
  subst hE
  obtain ⟨hall, _, hhc⟩ := rd_esc hrd
  rw [hhc]
  obtain ⟨n, hzn⟩ : ∃ n, ZS.length = n := ⟨_, rfl⟩
  have HZ := hide hzn
  have HALL := hide hall
  have hn6 : (n : Int) ≤ 65536 := by omega
  obtain ⟨R, hR⟩ : ∃ R, (ZS.any fun z => ctl z.toNat) = R := ⟨_, rfl⟩
  rw [hR]
  have HR := hide hR
  have a1 : (p : Int) ≤ (q : Int) := by omega
  have a2 : (q : Int) ≤ (s.size : Int) := by omega
  have a3 : (0 : Int) ≤ (p : Int) := by omega
  have hs' : (s.size : Int) ≤ 65536 := by omega
  clear hs hpq hq hv hx hxz hrd hrx hn hall hhc hzn hR
  go_enter Tryd.func45, Tryd.ntmps45
  go_wp2_with (first | (go_at_call 20; refine CD.out.mono ?_; rintro e w1 ⟨v, rfl, h1, h2⟩; obtain ⟨a, c, rfl, hL, hc1, hc2⟩ := h1.lst; rw [HZ.out] at hc1 ⊢; have HL := hide hL; have H2 := hide h2; clear h1 h2 hL hc1 hc2))
  go_loopw [10] (fun vi wr => ∃ k : Nat, vi = .int .i64 k ∧ Hid (k ≤ n ∧ (ZS.take k).any (fun z => ctl z.toNat) = false ∧ Below w.heap.size w wr ∧ Lst wr a ZS)) (fun vi _ => n - (RowKit.intOf vi).toNat)
  case atStart => exact ⟨0, rfl, hide ⟨by omega, by simp, H2.out, HL.out⟩⟩
  case round =>
    clear H2 HL CD
    obtain ⟨k, rfl, HK⟩ := hrel
    obtain ⟨k1, k2, k3, k4⟩ := HK.out
    clear HK
    by_cases hlt : k < n
    · have hlt' : (k : Int) < (n : Int) := by omega
      have k4' := k4
      rcases k4' with h0 | ⟨b, off, rfl, hb, hcell⟩
      · have := HZ.out; rw [h0] at this; simp at this; omega
      have hc := hcell k (by have := HZ.out; omega)
      have htk := take_snoc ZS k (by have := HZ.out; omega)
      have hmem : ZS.getD k 0 ∈ ZS := by rw [List.getD_eq_getElem?_getD, List.getElem?_eq_getElem (by have := HZ.out; omega)]; exact List.getElem_mem _
      have hp := List.all_eq_true.1 HALL.out _ hmem
      have hz := isP_t.1 hp
      obtain ⟨z, hzc⟩ : ∃ z : Nat, ZS.getD k 0 = (z : Int) := ⟨(ZS.getD k 0).toNat, by omega⟩
      rw [hzc] at hc htk hmem hz
      have CC := hide (fun w => rclass_any (z : Int) w)
      have h4 := ctl_cls z (by omega)
      have K3 := hide k3
      have K4 := hide k4
      cases hct : ctl z
      · rw [hct] at h4
        have K2 := hide (show (ZS.take (k + 1)).any (fun z => ctl z.toNat) = false by rw [htk, List.any_append, k2]; simp [hct])
        obtain ⟨CL, hCL⟩ : ∃ CL, clsV (z : Int) = CL := ⟨_, rfl⟩
        rw [hCL] at CC h4
        clear k2 k3 k4 hcell htk hmem hp hz hct hCL hzc
        go_wp2_with (first | (go_at_call 34; refine (CC.out _).mono ?_; rintro e w1 ⟨rfl, rfl⟩))
        go_roundw
        case rel => exact ⟨k + 1, by go_num, hide ⟨by omega, K2.out, K3.out, K4.out⟩⟩
        case measure => simp [RowKit.intOf]; omega
      · rw [hct] at h4
        have hany : (ZS.any fun z => ctl z.toNat) = true := List.any_eq_true.2 ⟨(z : Int), hmem, by simpa using hct⟩
        rw [HR.out] at hany
        subst hany
        have h5 : clsV (z : Int) = 4 := by simpa using h4
        rw [h5] at CC
        clear k2 k3 k4 hcell htk hmem hp hz hct hzc h4 h5
        go_wp2_with (first | (go_at_call 34; refine (CC.out _).mono ?_; rintro e w1 ⟨rfl, rfl⟩))
        go_ret
        exact ⟨rfl, K3.out⟩
    · have hlt' : ¬ (k : Int) < (n : Int) := by omega
      rw [List.take_of_length_le (by have := HZ.out; omega), HR.out] at k2
      subst k2
      have K3 := hide k3
      clear k3 k4
      go_wp2_with fail
      go_ret
      exact ⟨rfl, K3.out⟩
def wds : List (List UInt8) := [[38, 108, 116, 59], [38, 103, 116, 59], [38, 97, 109, 112, 59], [38, 113, 117, 111, 116, 59]]
def cds : List Nat := [60, 62, 38, 34]
theorem ent_wd (q : List UInt8) (i : Nat) (hi : i < 4) (h : hp (wds.getD i []) q = true) : ent q = some (cds.getD i 0, (wds.getD i []).length) := by
  obtain ⟨r, hr⟩ := (hp_iff _ _).1 h
  obtain rfl | rfl | rfl | rfl : i = 0 ∨ i = 1 ∨ i = 2 ∨ i = 3 := by omega
  · have : q = [38, 108, 116, 59] ++ r := hr
    rw [this]
    have hu : upto 59 (([38, 108, 116, 59] ++ r).drop 1) = [108, 116] := by simp [upto, List.takeWhile_cons]
    unfold ent; rw [hu, if_neg (by simp)]; rfl
  · have : q = [38, 103, 116, 59] ++ r := hr
    rw [this]
    have hu : upto 59 (([38, 103, 116, 59] ++ r).drop 1) = [103, 116] := by simp [upto, List.takeWhile_cons]
    unfold ent; rw [hu, if_neg (by simp)]; rfl
  · have : q = [38, 97, 109, 112, 59] ++ r := hr
    rw [this]
    have hu : upto 59 (([38, 97, 109, 112, 59] ++ r).drop 1) = [97, 109, 112] := by simp [upto, List.takeWhile_cons]
    unfold ent; rw [hu, if_neg (by simp)]; rfl
  · have : q = [38, 113, 117, 111, 116, 59] ++ r := hr
    rw [this]
    have hu : upto 59 (([38, 113, 117, 111, 116, 59] ++ r).drop 1) = [113, 117, 111, 116] := by simp [upto, List.takeWhile_cons]
    unfold ent; rw [hu, if_neg (by simp)]; rfl
theorem upto_split {b : UInt8} {l : List UInt8} (h : b ∈ l) : l = upto b l ++ b :: l.drop ((upto b l).length + 1) := by
  have h1 := upto_get h
  have h2 := upto_lt h
  have h3 : l.drop (upto b l).length = b :: l.drop ((upto b l).length + 1) := by
    rw [List.drop_eq_getElem_cons h2]
    rw [List.getElem?_eq_getElem h2] at h1
    injection h1 with h1
    rw [h1]
  calc l = l.take (upto b l).length ++ l.drop (upto b l).length := (List.take_append_drop _ _).symm
    _ = _ := by rw [upto_take, h3]
theorem ent_no (r : List UInt8) (h : ∀ i, i < 4 → hp (wds.getD i []) (38 :: r) = false) : ent (38 :: r) = if 59 ∈ r then (if (upto 59 r).getD 0 0 = 35 then (numW ((upto 59 r).drop 1)).map (fun c => (c, (upto 59 r).length + 2)) else none) else none := by
  unfold ent
  rw [show (38 :: r).drop 1 = r from rfl]
  by_cases hm : (59 : UInt8) ∈ r
  · have hlt := upto_lt hm
    have hsp := upto_split hm
    rw [if_neg (by omega), if_pos hm]
    have key : ∀ w : List UInt8, hp (38 :: (w ++ [59])) (38 :: r) = false → upto 59 r ≠ w := fun w hw he => by
      have : hp (38 :: (w ++ [59])) (38 :: r) = true := (hp_iff _ _).2 ⟨r.drop ((upto 59 r).length + 1), by
        rw [List.cons_append, List.append_assoc]
        congr 1
        rw [← he]
        exact hsp⟩
      rw [hw] at this; cases this
    have k0 := key [108, 116] (h 0 (by omega))
    have k1 := key [103, 116] (h 1 (by omega))
    have k2 := key [97, 109, 112] (h 2 (by omega))
    have k3 := key [113, 117, 111, 116] (h 3 (by omega))
    unfold entW
    rw [if_neg k0, if_neg k1, if_neg k2, if_neg k3]
    split <;> rfl
  · rw [if_pos (by rw [upto_all hm]), if_neg hm]
def dgs (D : List UInt8) : Nat := min 7 (D.takeWhile dgB).length
theorem dtw_le (q : List UInt8) (n : Nat) (h : n ≤ q.length) (ha : (q.take n).all dgB = true) : n ≤ (q.takeWhile dgB).length := by
  induction q generalizing n with
  | nil => simp at h; omega
  | cons b r ih =>
    cases n with
    | zero => omega
    | succ n =>
      rw [List.take_succ_cons, List.all_cons, Bool.and_eq_true] at ha
      rw [List.takeWhile_cons, if_pos ha.1, List.length_cons]
      have := ih n (by simpa using h) ha.2
      omega
theorem dtw_eq : ∀ (l : List UInt8) (k : Nat), (l.take k).all dgB = true → (∀ b, l[k]? = some b → dgB b = false) → l.takeWhile dgB = l.take k
  | [], k, _, _ => by simp
  | b :: l, 0, _, h => by
    have h0 := h b rfl
    rw [List.takeWhile_cons, if_neg (by rw [h0]; simp)]; rfl
  | b :: l, k + 1, h, h2 => by
    rw [List.take_succ_cons, List.all_cons, Bool.and_eq_true] at h
    rw [List.takeWhile_cons, if_pos h.1, dtw_eq l k h.2 (fun c hc => h2 c (by simpa using hc)), List.take_succ_cons]
theorem tw_all (p : UInt8 → Bool) (l : List UInt8) (b : UInt8) (h : b ∈ l.takeWhile p) : p b = true := by
  induction l with
  | nil => simp at h
  | cons c r ih =>
    rw [List.takeWhile_cons] at h
    split at h
    · rcases List.mem_cons.1 h with rfl | h
      · assumption
      · exact ih h
    · simp at h
theorem dgs_7 {q : List UInt8} (h : 7 ≤ q.length) (ha : (q.take 7).all dgB = true) : dgs q = 7 := by
  have := dtw_le q 7 h ha
  unfold dgs; omega
theorem dgs_end {q : List UInt8} {n : Nat} (h : n ≤ q.length) (h7 : n ≤ 7) (ha : (q.take n).all dgB = true) (hn : ∀ b, q[n]? = some b → dgB b = false) : dgs q = n := by
  unfold dgs
  rw [dtw_eq q n ha hn, List.length_take]; omega
theorem dg_not59 {b : UInt8} (h : dgB b = true) : b ≠ 59 := by rintro rfl; exact absurd h (by decide)
theorem ent_num (D : List UInt8) (h : ∀ i, i < 4 → hp (wds.getD i []) (38 :: 35 :: D) = false) :
    ent (38 :: 35 :: D) = if dgs D = 0 ∨ D.getD 0 0 = 48 ∨ D[dgs D]? ≠ some 59 ∨ isP ((dv (D.take (dgs D)) : Nat) : Int) = false ∨ ctl (dv (D.take (dgs D))) = true then none else some (dv (D.take (dgs D)), dgs D + 3) := by
  rw [ent_no _ h]
  have htw : D.take (D.takeWhile dgB).length = D.takeWhile dgB := by
    have := List.takeWhile_append_dropWhile (p := dgB) (l := D)
    calc D.take (D.takeWhile dgB).length = (D.takeWhile dgB ++ D.dropWhile dgB).take (D.takeWhile dgB).length := by rw [this]
      _ = _ := List.take_left' rfl
  have hall : ∀ b ∈ D.take (dgs D), dgB b = true := fun b hb => by
    have h1 : D.take (dgs D) = (D.takeWhile dgB).take (dgs D) := by
      rw [← htw, List.take_take]; congr 1; unfold dgs; omega
    rw [h1] at hb
    exact tw_all _ _ _ (List.mem_of_mem_take hb)
  by_cases hm : D[dgs D]? = some 59
  · have hlt := (List.getElem?_eq_some_iff.1 hm).1
    have hsplit : D = D.take (dgs D) ++ 59 :: D.drop (dgs D + 1) := by
      have h3 : D.drop (dgs D) = 59 :: D.drop (dgs D + 1) := by
        rw [List.drop_eq_getElem_cons hlt]
        rw [List.getElem?_eq_getElem hlt] at hm
        injection hm with hm
        rw [hm]
      calc D = D.take (dgs D) ++ D.drop (dgs D) := (List.take_append_drop _ _).symm
        _ = _ := by rw [h3]
    have hn59 : (59 : UInt8) ∉ D.take (dgs D) := fun hc => dg_not59 (hall _ hc) rfl
    have hu : upto 59 (35 :: D) = 35 :: D.take (dgs D) := by
      have e : (35 :: D) = (35 :: D.take (dgs D)) ++ 59 :: D.drop (dgs D + 1) := by rw [List.cons_append, ← hsplit]
      rw [e]
      have key : ∀ (t r : List UInt8), (59 : UInt8) ∉ t → upto 59 (t ++ 59 :: r) = t := by
        intro t
        induction t with
        | nil => intro r _; simp [upto]
        | cons c t ih =>
          intro r hc
          simp only [List.mem_cons, not_or] at hc
          have := ih r hc.2
          unfold upto at *
          rw [List.cons_append, List.takeWhile_cons, if_pos (by simpa using Ne.symm hc.1), this]
      exact key _ _ (by simp only [List.mem_cons, not_or]; exact ⟨by decide, hn59⟩)
    rw [if_pos (by rw [hsplit]; simp), hu, if_pos (show (35 :: D.take (dgs D)).getD 0 0 = 35 from rfl)]
    simp only [List.drop_one, List.tail_cons]
    have hlen : (D.take (dgs D)).length = dgs D := by rw [List.length_take]; omega
    have h7 : dgs D ≤ 7 := by unfold dgs; omega
    have hg : D.getD 0 0 = 48 ∨ dgs D = 0 ↔ (D.take (dgs D)) = [] ∨ (D.take (dgs D)).getD 0 0 = 48 := by
      by_cases h0 : dgs D = 0
      · rw [h0]; simp
      · have : (D.take (dgs D)).getD 0 0 = D.getD 0 0 := by
          rw [List.getD_eq_getElem?_getD, List.getD_eq_getElem?_getD, List.getElem?_take_of_lt (by omega)]
        rw [this]
        constructor
        · rintro (h | h)
          · exact Or.inr h
          · exact absurd h h0
        · rintro (h | h)
          · have := congrArg List.length h; rw [hlen] at this; exact absurd this h0
          · exact Or.inl h
    have hal : (D.take (dgs D)).all dgB = true := List.all_eq_true.2 hall
    unfold numW
    by_cases hc : D.take (dgs D) = [] ∨ (D.take (dgs D)).getD 0 0 = 48
    · have hc2 := hg.2 hc
      rw [if_pos (by rcases hc with h | h; exact Or.inl h; exact Or.inr (Or.inl h)), if_pos (by rcases hc2 with h | h; exact Or.inr (Or.inl h); exact Or.inl h)]
      rfl
    · have hc2 : ¬ (D.getD 0 0 = 48 ∨ dgs D = 0) := fun h => hc (hg.1 h)
      by_cases hp' : isP ((dv (D.take (dgs D)) : Nat) : Int) = false ∨ ctl (dv (D.take (dgs D))) = true
      · rw [if_pos (by rcases hp' with h | h; exact Or.inr (Or.inr (Or.inr (Or.inr (Or.inl h)))); exact Or.inr (Or.inr (Or.inr (Or.inr (Or.inr h))))), if_pos (by rcases hp' with h | h; exact Or.inr (Or.inr (Or.inr (Or.inl h))); exact Or.inr (Or.inr (Or.inr (Or.inr h))))]
        rfl
      · rw [if_neg (by
          rintro (h | h | h | h | h | h)
          · exact hc (Or.inl h)
          · exact hc (Or.inr h)
          · omega
          · rw [hal] at h; cases h
          · exact hp' (Or.inl h)
          · exact hp' (Or.inr h)), if_neg (by
          rintro (h | h | h | h | h)
          · exact hc2 (Or.inr h)
          · exact hc2 (Or.inl h)
          · exact h hm
          · exact hp' (Or.inl h)
          · exact hp' (Or.inr h))]
        simp only [Option.map_some, List.length_cons, hlen]
  · rw [if_pos (Or.inr (Or.inr (Or.inl hm)))]
    by_cases hin : (59 : UInt8) ∈ 35 :: D
    · have hin2 : (59 : UInt8) ∈ D := by
        rcases List.mem_cons.1 hin with h | h
        · exact absurd h (by decide)
        · exact h
      have hu : upto 59 (35 :: D) = 35 :: upto 59 D := by unfold upto; rw [List.takeWhile_cons, if_pos (by decide)]
      rw [if_pos hin, hu, if_pos (show (35 :: upto 59 D).getD 0 0 = 35 from rfl)]
      simp only [List.drop_one, List.tail_cons]
      unfold numW
      rw [if_pos]
      · rfl
      · by_cases ha : (upto 59 D).all dgB = true
        · by_cases h7 : 7 < (upto 59 D).length
          · exact Or.inr (Or.inr (Or.inl h7))
          · exfalso
            apply hm
            have hg := upto_get hin2
            have hlt := upto_lt hin2
            have : dgs D = (upto 59 D).length := dgs_end (by omega) (by omega) (by rw [upto_take]; exact ha) (fun b hb => by
              rw [hg] at hb; injection hb with hb; rw [← hb]; decide)
            rw [this]; exact hg
        · exact Or.inr (Or.inr (Or.inr (Or.inl (by simpa using ha))))
    · rw [if_neg hin]
theorem ent_else (r : List UInt8) (h : ∀ i, i < 4 → hp (wds.getD i []) (38 :: r) = false) (hr : r.getD 0 0 ≠ 35 ∨ r.length ≤ 1) : ent (38 :: r) = none := by
  rw [ent_no r h]
  split
  · rename_i hm
    have hg : (upto 59 r).getD 0 0 = 35 → r.getD 0 0 = 35 ∧ 2 ≤ r.length := fun h => by
      cases r with
      | nil => simp at hm
      | cons b t =>
        unfold upto at h
        rw [List.takeWhile_cons] at h
        split at h
        · rename_i hb
          have hb35 : b = 35 := by simpa using h
          refine ⟨by simpa using hb35, ?_⟩
          rcases List.mem_cons.1 hm with h2 | h2
          · rw [← h2] at hb; simp at hb
          · have := List.length_pos_of_mem h2
            simp; omega
        · exact absurd h (by decide)
    rw [if_neg (fun h2 => by
      have := hg h2
      rcases hr with h3 | h3
      · exact h3 this.1
      · omega)]
  · rfl
end Go.Proofs.YtpmdekhjodhdmaaDoor.K17
