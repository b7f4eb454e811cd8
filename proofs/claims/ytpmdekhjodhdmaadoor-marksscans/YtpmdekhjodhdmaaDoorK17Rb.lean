/-
  The reference's readers: Blank, blanks, controls.
-/
import Derived.Test.YtpmdekhjodhdmaaDoorK17Ra
namespace Go.Proofs.YtpmdekhjodhdmaaDoor.K17
open Go.RowKit Go.Proofs.YtpmdekhjodhdmaaDoor
open Go.Lib
set_option linter.unusedVariables false
set_option linter.unusedSimpArgs false
set_option maxRecDepth 8000

theorem blB_nat (b : UInt8) : blB b = (b.toNat == 9 || (b.toNat == 10 || (b.toNat == 13 || b.toNat == 32))) := by
  have e : ∀ n : Nat, n < 256 → ((b == UInt8.ofNat n) = (b.toNat == n)) := fun n hn => by
    rw [Bool.eq_iff_iff, beq_iff_eq, beq_iff_eq]
    constructor
    · intro h; rw [h]; exact bt_nat n hn
    · intro h; exact (bt_eq h.symm).symm
  have h9 := e 9 (by omega); have h10 := e 10 (by omega); have h13 := e 13 (by omega); have h32 := e 32 (by omega)
  unfold blB
  rw [← h9, ← h10, ← h13, ← h32]
  simp only [List.contains_cons, List.contains_nil, Bool.or_false]
  rfl
set_option maxHeartbeats 1000000 in
theorem rblank_any (b : UInt8) (w : World) : Calls Tryd.prog 63 #[.int .u8 (b.toNat : Int)] w fun e w' => e = .returned (.bool (blB b)) ∧ w' = w := by
  rw [blB_nat]
  generalize b.toNat = n
  by_cases h1 : n = 9
  · subst h1
    go_enter Tryd.func63, Tryd.ntmps63
    go_wp2
    go_ret
    exact ⟨rfl, rfl⟩
  have f1 : ((n : Int) == 9) = false := by rw [beq_eq_false_iff_ne]; omega
  have g1 : (n == 9) = false := by rw [beq_eq_false_iff_ne]; omega
  rw [g1]
  by_cases h2 : n = 10
  · subst h2
    clear h1 f1 g1
    go_enter Tryd.func63, Tryd.ntmps63
    go_wp2
    go_ret
    exact ⟨rfl, rfl⟩
  have f2 : ((n : Int) == 10) = false := by rw [beq_eq_false_iff_ne]; omega
  have g2 : (n == 10) = false := by rw [beq_eq_false_iff_ne]; omega
  rw [g2]
  by_cases h3 : n = 13
  · subst h3
    clear h1 f1 g1 h2 f2 g2
    go_enter Tryd.func63, Tryd.ntmps63
    go_wp2
    go_ret
    exact ⟨rfl, rfl⟩
  have f3 : ((n : Int) == 13) = false := by rw [beq_eq_false_iff_ne]; omega
  have g3 : (n == 13) = false := by rw [beq_eq_false_iff_ne]; omega
  rw [g3]
  by_cases h4 : n = 32
  · subst h4
    clear h1 f1 g1 h2 f2 g2 h3 f3 g3
    go_enter Tryd.func63, Tryd.ntmps63
    go_wp2
    go_ret
    exact ⟨rfl, rfl⟩
  have f4 : ((n : Int) == 32) = false := by rw [beq_eq_false_iff_ne]; omega
  have g4 : (n == 32) = false := by rw [beq_eq_false_iff_ne]; omega
  rw [g4]
  clear h1 g1 h2 g2 h3 g3 h4 g4
  go_enter Tryd.func63, Tryd.ntmps63
  go_wp2
  go_ret
  exact ⟨rfl, rfl⟩
/- the place behind blanks -/
def bkP (l : List UInt8) (p : Nat) : Nat := l.length - (bk (l.drop p)).length
theorem bkP_le (l : List UInt8) (p : Nat) (hp : p ≤ l.length) : p ≤ bkP l p ∧ bkP l p ≤ l.length ∧ l.drop (bkP l p) = bk (l.drop p) := by
  have h1 := bk_le (l.drop p)
  rw [List.length_drop] at h1
  refine ⟨by unfold bkP; omega, by unfold bkP; omega, ?_⟩
  exact suf_drop ((bk_suf _).trans (List.drop_suffix _ _))
theorem bkP_step (l : List UInt8) (p : Nat) (hp : p < l.length) (hb : blB l[p] = true) : bkP l (p + 1) = bkP l p := by
  unfold bkP
  rw [List.drop_eq_getElem_cons hp, bk_b _ hb]
where bk_b {b : UInt8} (r : List UInt8) (h : blB b = true) : bk (b :: r) = bk r := by unfold bk; rw [List.dropWhile_cons, if_pos h]
theorem bkP_stop (l : List UInt8) (p : Nat) (hp : p < l.length) (hb : blB l[p] = false) : bkP l p = p := by
  unfold bkP bk
  rw [List.drop_eq_getElem_cons hp, List.dropWhile_cons, if_neg (by rw [hb]; simp), List.length_cons, List.length_drop]
  omega
theorem bkP_end (l : List UInt8) : bkP l l.length = l.length := by
  unfold bkP; rw [List.drop_length]; rfl
set_option maxHeartbeats 1000000 in
theorem rblanks_any (s : ByteArray) (p : Nat) (w : World) (hs : s.size ≤ 1048576) (hp : p ≤ s.size) :
    Calls Tryd.prog 44 #[.string s, .int .i64 (p : Int)] w fun e w' => e = .returned (.int .i64 (bkP s.data.toList p : Nat)) ∧ w' = w := by
  have hs' : (s.size : Int) ≤ 1048576 := by omega
  have hl := size_l s
  have CB := hide rblank_any
  obtain ⟨R, hR⟩ : ∃ R, bkP s.data.toList p = R := ⟨_, rfl⟩
  rw [hR]
  have HR := hide hR
  have HL := hide hl
  have hpi : (p : Int) ≤ (s.size : Int) := by omega
  clear hR hl hs
  go_enter Tryd.func44, Tryd.ntmps44
  go_wp2_with fail
  go_loop [1] (fun vn => ∃ n : Nat, vn = .int .i64 n ∧ Hid (n ≤ s.size ∧ bkP s.data.toList n = R)) (fun vn => s.size - (RowKit.intOf vn).toNat)
  case atStart => exact ⟨p, rfl, hide ⟨by omega, HR.out⟩⟩
  case round =>
    obtain ⟨n, rfl, HK⟩ := hrel
    obtain ⟨k1, k2⟩ := HK.out
    clear HK
    by_cases hlt : n < s.size
    · have hlt' : (n : Int) < (s.size : Int) := by omega
      have C1 := hide (show ∀ w, _ from fun w => CB.out s[n] w)
      have hge : s.data.toList[n]'(by rw [HL.out]; exact hlt) = s[n] := rfl
      cases hb : blB s[n]
      · rw [hb] at C1
        have := bkP_stop s.data.toList n (by rw [HL.out]; exact hlt) (by rw [hge]; exact hb)
        rw [k2] at this
        subst this
        clear hb hge k2 CB
        go_wp2_with (go_at_call 63; refine (C1.out _).mono ?_; rintro e w1 ⟨rfl, rfl⟩)
        go_ret
        exact ⟨rfl, rfl⟩
      · rw [hb] at C1
        have K2 := hide (show bkP s.data.toList (n + 1) = R by rw [bkP_step _ _ (by rw [HL.out]; exact hlt) (by rw [hge]; exact hb)]; exact k2)
        clear hb hge k2 CB
        go_wp2_with (go_at_call 63; refine (C1.out _).mono ?_; rintro e w1 ⟨rfl, rfl⟩)
        go_round
        case rel => exact ⟨n + 1, by go_num, hide ⟨by omega, K2.out⟩⟩
        case measure => simp [RowKit.intOf]; omega
    · have hlt' : ¬ (n : Int) < (s.size : Int) := by omega
      obtain rfl : n = s.size := by omega
      have := bkP_end s.data.toList
      rw [HL.out, k2] at this
      subst this
      clear k2
      go_wp2_with fail
      go_ret
      exact ⟨rfl, rfl⟩
set_option maxHeartbeats 2000000 in
theorem rcontrols_any (s : ByteArray) (p q : Nat) (w : World) (hs : s.size ≤ 65536) (hpq : p ≤ q) (hq : q ≤ s.size) (hv : Vt ((s.data.toList.drop p).take (q - p))) :
    Calls Tryd.prog 45 #[.string s, .int .i64 (p : Int), .int .i64 (q : Int)] w fun e w' => e = .returned (.bool (hc ((s.data.toList.drop p).take (q - p)))) ∧ Below w.heap.size w w' := by
  have hx : (s.extract p q).data.toList = (s.data.toList.drop p).take (q - p) := by rw [Lib.extract_data]
  have hxz : (s.extract p q).size ≤ 65536 := by rw [ByteArray.size_extract]; omega
  obtain ⟨⟨ZS, P, E⟩, hrd⟩ : ∃ r, rd st8 ((s.data.toList.drop p).take (q - p)) 0 = r := ⟨_, rfl⟩
  have hrx : rd st8 (s.extract p q).data.toList 0 = (ZS, P, E) := by rw [hx]; exact hrd
  have CD := hide (rdecode_core (s.extract p q) w hxz ZS P E hrx)
  have hn := rd_len st8 (s.extract p q).data.toList 0
  rw [hrx] at hn
  simp only at hn
  rw [size_l] at hn
  have hE := (rd_vt ((s.data.toList.drop p).take (q - p))).2.2 hv
  rw [hrd] at hE
  simp only at hE
  subst hE
  obtain ⟨hall, _, hhc⟩ := rd_esc hrd
  rw [hhc]
  obtain ⟨n, hzn⟩ : ∃ n, ZS.length = n := ⟨_, rfl⟩
  have HZ := hide hzn
  have HALL := hide hall
  have hn6 : (n : Int) ≤ 65536 := by omega
  obtain ⟨R, hR⟩ : ∃ R, (ZS.any fun z => ctl z.toNat) = R := ⟨_, rfl⟩
  rw [hR]
  have HR := hide hR
  have a1 : (p : Int) ≤ (q : Int) := by omega
  have a2 : (q : Int) ≤ (s.size : Int) := by omega
  have a3 : (0 : Int) ≤ (p : Int) := by omega
  have hs' : (s.size : Int) ≤ 65536 := by omega
  clear hs hpq hq hv hx hxz hrd hrx hn hall hhc hzn hR
  go_enter Tryd.func45, Tryd.ntmps45
  go_wp2_with (first | (go_at_call 20; refine CD.out.mono ?_; rintro e w1 ⟨v, rfl, h1, h2⟩; obtain ⟨a, c, rfl, hL, hc1, hc2⟩ := h1.lst; rw [HZ.out] at hc1 ⊢; have HL := hide hL; have H2 := hide h2; clear h1 h2 hL hc1 hc2))
  go_loopw [10] (fun vi wr => ∃ k : Nat, vi = .int .i64 k ∧ Hid (k ≤ n ∧ (ZS.take k).any (fun z => ctl z.toNat) = false ∧ Below w.heap.size w wr ∧ Lst wr a ZS)) (fun vi _ => n - (RowKit.intOf vi).toNat)
  case atStart => exact ⟨0, rfl, hide ⟨by omega, by simp, H2.out, HL.out⟩⟩
  case round =>
    clear H2 HL CD
    obtain ⟨k, rfl, HK⟩ := hrel
    obtain ⟨k1, k2, k3, k4⟩ := HK.out
    clear HK
    by_cases hlt : k < n
    · have hlt' : (k : Int) < (n : Int) := by omega
      have k4' := k4
      rcases k4' with h0 | ⟨b, off, rfl, hb, hcell⟩
      · have := HZ.out; rw [h0] at this; simp at this; omega
      have hc := hcell k (by have := HZ.out; omega)
      have htk := take_snoc ZS k (by have := HZ.out; omega)
      have hmem : ZS.getD k 0 ∈ ZS := by rw [List.getD_eq_getElem?_getD, List.getElem?_eq_getElem (by have := HZ.out; omega)]; exact List.getElem_mem _
      have hp := List.all_eq_true.1 HALL.out _ hmem
      have hz := isP_t.1 hp
      obtain ⟨z, hzc⟩ : ∃ z : Nat, ZS.getD k 0 = (z : Int) := ⟨(ZS.getD k 0).toNat, by omega⟩
      rw [hzc] at hc htk hmem hz
      have CC := hide (fun w => rclass_any (z : Int) w)
      have h4 := ctl_cls z (by omega)
      have K3 := hide k3
      have K4 := hide k4
      cases hct : ctl z
      · rw [hct] at h4
        have K2 := hide (show (ZS.take (k + 1)).any (fun z => ctl z.toNat) = false by rw [htk, List.any_append, k2]; simp [hct])
        obtain ⟨CL, hCL⟩ : ∃ CL, clsV (z : Int) = CL := ⟨_, rfl⟩
        rw [hCL] at CC h4
        clear k2 k3 k4 hcell htk hmem hp hz hct hCL hzc
        go_wp2_with (first | (go_at_call 34; refine (CC.out _).mono ?_; rintro e w1 ⟨rfl, rfl⟩))
        go_roundw
        case rel => exact ⟨k + 1, by go_num, hide ⟨by omega, K2.out, K3.out, K4.out⟩⟩
        case measure => simp [RowKit.intOf]; omega
      · rw [hct] at h4
        have hany : (ZS.any fun z => ctl z.toNat) = true := List.any_eq_true.2 ⟨(z : Int), hmem, by simpa using hct⟩
        rw [HR.out] at hany
        subst hany
        have h5 : clsV (z : Int) = 4 := by simpa using h4
        rw [h5] at CC
        clear k2 k3 k4 hcell htk hmem hp hz hct hzc h4 h5
        go_wp2_with (first | (go_at_call 34; refine (CC.out _).mono ?_; rintro e w1 ⟨rfl, rfl⟩))
        go_ret
        exact ⟨rfl, K3.out⟩
    · have hlt' : ¬ (k : Int) < (n : Int) := by omega
      rw [List.take_of_length_le (by have := HZ.out; omega), HR.out] at k2
      subst k2
      have K3 := hide k3
      clear k3 k4
      go_wp2_with fail
      go_ret
      exact ⟨rfl, K3.out⟩
end Go.Proofs.YtpmdekhjodhdmaaDoor.K17
