/-
  What the reference's Read answers (made by c11rr.py).
-/
import Derived.Test.YtkmmphpaaahajaaC11Rqb
namespace Go.Proofs.Ytkmmphpaaahajaa
open Go.RowKit Go.Deep
set_option linter.unusedVariables false
set_option linter.unusedSimpArgs false

theorem rtw_any (s : ByteArray) (n : Nat) (w : World) (hs : s.size ≤ 1073741824) (hn : n ≤ 4096) :
    Calls Try.prog 24 #[.string s, .int .i64 (n : Int)] w (AdR w w.heap.size (twV s.data.toList n)) := by
  cases h : twB s.data.toList
  · rw [twV_head h]
    exact (rtw_bad s n w hs h).mono fun e w' ⟨h1, m, h2⟩ => ⟨h1, by rw [h2]; exact below_drewN (Below.refl _ _) _⟩
  · exact rtw_ok s n w hs h hn
theorem rfo_any (s : ByteArray) (n : Nat) (w : World) (hs : s.size ≤ 1073741824) (hn : n ≤ 4096) :
    Calls Try.prog 25 #[.string s, .int .i64 (n : Int)] w (AdR w w.heap.size (foV s.data.toList n)) := by
  cases h : foB s.data.toList
  · have hv : foV s.data.toList n = none := by unfold foV; rw [h]; rfl
    rw [hv]
    exact (rfo_bad s n w hs h).mono fun e w' ⟨h1, m, h2⟩ => ⟨h1, by rw [h2]; exact below_drewN (Below.refl _ _) _⟩
  · exact rfo_ok s n w hs h hn
/- the first of the numbers from j to K of which p says yes -/
def fstF (p : Nat → Bool) (K j : Nat) : Option Nat := ((List.range K).drop j).find? p
theorem fstF_zero (p : Nat → Bool) (K : Nat) : fstF p K 0 = fstI p K := rfl
theorem fstF_end (p : Nat → Bool) (K : Nat) : fstF p K K = none := by unfold fstF; rw [List.drop_eq_nil_of_le (by simp)]; rfl
theorem fstF_step (p : Nat → Bool) (K j : Nat) (h : j < K) : fstF p K j = if p j then some j else fstF p K (j + 1) := by
  unfold fstF
  rw [List.drop_eq_getElem_cons (by simpa using h), List.find?_cons]
  simp only [List.getElem_range]
  cases p j <;> rfl
theorem fstF_t {p : Nat → Bool} {K j : Nat} (h : j < K) (hp : p j = true) : ixV (fstF p K j) = (j : Int) := by rw [fstF_step p K j h, hp]; rfl
theorem fstF_f {p : Nat → Bool} {K j : Nat} (h : j < K) (hp : p j = false) : ixV (fstF p K j) = ixV (fstF p K (j + 1)) := by rw [fstF_step p K j h, hp]; rfl
def RrR (w : World) (R : Option (List Ch)) (e : Ending) (w' : World) : Prop := match R with
  | some cs => ∃ v, e = .returned (.tuple #[v, .int .i64 0]) ∧ CRow w' w.heap.size v cs ∧ Below w.heap.size w w'
  | none => e = .returned (.tuple #[.slice none 0 0, .int .i64 110]) ∧ Below w.heap.size w w'
theorem rread_arg (t : ByteArray) (n : Int) (w : World) (h : ¬ (1 ≤ n ∧ n ≤ 4096)) :
    Calls Try.prog 10 #[.string t, .int .i64 n] w fun e w' => e = .returned (.tuple #[.slice none 0 0, .int .i64 1]) ∧ w' = w := by
  by_cases h1 : n < 1
  · clear h
    go_enter Try.func10, Try.ntmps10
    go_wp2_with fail
    go_ret2
    exact ⟨rfl, rfl⟩
  · have h1' : decide (n < 1) = false := by simp; omega
    have h2 : 4096 < n := by omega
    clear h h1
    go_enter Try.func10, Try.ntmps10
    go_wp2_with fail
    go_ret2
    exact ⟨rfl, rfl⟩
set_option maxRecDepth 8000 in
set_option maxHeartbeats 2000000 in
theorem rread_bad (t : ByteArray) (n : Nat) (w : World) (hs : t.size ≤ 1073741824) (h1 : 1 ≤ n) (h2 : n ≤ 4096) (h : rowB t.data.toList = false) :
    Calls Try.prog 10 #[.string t, .int .i64 (n : Int)] w (RrR w none) := by
  have hs' : (t.size : Int) ≤ 1073741824 := by omega
  have t1 : ¬ (n : Int) < 1 := by omega
  have t2 : ¬ (4096 : Int) < (n : Int) := by omega
  have hT : ¬ (4 ≤ t.data.toList.length ∧ t.data.toList.take 2 = [0, 0] ∧ 4 + 8 * n2 t.data.toList 2 ≤ t.data.toList.length) := fun hh => by rw [rowB_t.2 hh] at h; cases h
  rw [← Lib.size_eq] at hT
  have CZ := hide (fun w => ru2_z t 2 2 w rfl hs (by omega))
  clear h h1 h2
  by_cases c1 : t.size < 4
  · have c1' : (t.size : Int) < 4 := by omega
    clear hT
    go_enter Try.func10, Try.ntmps10
    go_wp2_with fail
    refine (CZ.out _).mono ?_
    rintro e w1 ⟨y, rfl, y1, _, k1, hw⟩
    subst hw
    go_wp2_with fail
    go_ret2
    exact ⟨rfl, below_drewN (Below.refl _ _) _⟩
  have c1' : ¬ (t.size : Int) < 4 := by omega
  have c1b : (2 : Int) ≤ (t.size : Int) := by omega
  have hq := head_eq t 2 [0, 0]
  by_cases c2 : t.data.toList.take 2 = [0, 0]
  case neg =>
    rw [decide_eq_false c2] at hq
    clear hT c2
    go_enter Try.func10, Try.ntmps10
    go_wp2_with fail
    refine (CZ.out _).mono ?_
    rintro e w1 ⟨y, rfl, y1, _, k1, hw⟩
    subst hw
    go_wp2_with fail
    go_ret2
    exact ⟨rfl, below_drewN (Below.refl _ _) _⟩
  rw [decide_eq_true c2] at hq
  have C2 := hide (fun w => ru2_any t 2 2 w rfl (by omega) hs)
  have bk := n2_lt t.data.toList 2
  have c3 : ¬ 4 + 8 * n2 t.data.toList 2 ≤ t.size := fun hh => hT ⟨by omega, c2, hh⟩
  generalize n2 t.data.toList 2 = K at *
  have c3' : (t.size : Int) < 4 + 8 * (K : Int) := by omega
  have k0 : (0 : Int) ≤ (K : Int) := by omega
  have k1 : (K : Int) ≤ 65535 := by omega
  clear hT c2 CZ c3
  go_enter Try.func10, Try.ntmps10
  go_wp2_with fail
  refine (C2.out _).mono ?_
  rintro e w1 ⟨rfl, m, hw⟩
  subst hw
  go_wp2_with fail
  go_ret2
  exact ⟨rfl, below_drewN (Below.refl _ _) _⟩
set_option maxRecDepth 8000 in
set_option maxHeartbeats 8000000 in
theorem rread_ok (t : ByteArray) (n : Nat) (w : World) (hs : t.size ≤ 1073741824) (h1 : 1 ≤ n) (h2 : n ≤ 4096) (h : rowB t.data.toList = true) :
    Calls Try.prog 10 #[.string t, .int .i64 (n : Int)] w (RrR w (redV t.data.toList n)) := by
  have hs' : (t.size : Int) ≤ 1073741824 := by omega
  have t1 : ¬ (n : Int) < 1 := by omega
  have t2 : ¬ (4096 : Int) < (n : Int) := by omega
  have hv : redV t.data.toList n = redW t.data.toList n := by unfold redV; rw [h]; rfl
  rw [hv]
  have hT := rowB_t.1 h
  rw [← Lib.size_eq] at hT
  obtain ⟨c1, c2, c3⟩ := hT
  have c1' : ¬ (t.size : Int) < 4 := by omega
  have c1b : (2 : Int) ≤ (t.size : Int) := by omega
  have hq := head_eq t 2 [0, 0]
  rw [decide_eq_true c2] at hq
  have C2 := hide (fun w => ru2_any t 2 2 w rfl (by omega) hs)
  have CU := hide (fun (j : Nat) (z : Int) (w : World) (hz : z = (j : Int)) (h : j + 2 ≤ t.size) => ru2_any t j z w hz h hs)
  have CV := hide (fun (j : Nat) (z : Int) (w : World) (hz : z = (j : Int)) (h : j + 4 ≤ t.size) => ru4_any t j z w hz h hs)
  have bk := n2_lt t.data.toList 2
  have HW1 := hide (show wiI t.data.toList = fstI (fun i => wiR (rp t.data.toList i) (re t.data.toList i)) (n2 t.data.toList 2) from rfl)
  have HN1 := hide (show naI t.data.toList = fstI (fun i => naR (rp t.data.toList i) (re t.data.toList i)) (n2 t.data.toList 2) from rfl)
  obtain ⟨K, hK⟩ : ∃ K, n2 t.data.toList 2 = K := ⟨_, rfl⟩
  rw [hK] at C2 HW1 HN1 c3 bk
  have c3' : ¬ (t.size : Int) < 4 + 8 * (K : Int) := by omega
  have k0 : (0 : Int) ≤ (K : Int) := by omega
  have k1 : (K : Int) ≤ 65535 := by omega
  have H3 := hide c3
  have HLB := hide (n4_lt t.data.toList)
  have HRW := hide (show ∀ R, redW t.data.toList n = R → RrR w (redW t.data.toList n) = RrR w R from fun R h => by rw [h])
  have CTW := hide (fun (p : Nat) (w : World) (h : p ≤ t.size) => (show Calls Try.prog 24 #[.string (t.extract p t.size), .int .i64 (n : Int)] w (AdR w w.heap.size (twV (t.data.toList.drop p) n)) by
    have := rtw_any (t.extract p t.size) n w (by rw [ByteArray.size_extract]; omega) h2
    have e := ext_drop t p
    rw [Nat.min_eq_left h] at e
    rw [e] at this
    exact this))
  have CFO := hide (fun (p : Nat) (w : World) (h : p ≤ t.size) => (show Calls Try.prog 25 #[.string (t.extract p t.size), .int .i64 (n : Int)] w (AdR w w.heap.size (foV (t.data.toList.drop p) n)) by
    have := rfo_any (t.extract p t.size) n w (by rw [ByteArray.size_extract]; omega) h2
    have e := ext_drop t p
    rw [Nat.min_eq_left h] at e
    rw [e] at this
    exact this))
  have HDR : Hid (∀ p, ¬ p ≤ t.size → twV (t.data.toList.drop p) n = none ∧ foV (t.data.toList.drop p) n = none) := hide (fun p hp => by
    rw [List.drop_eq_nil_of_le (by rw [← Lib.size_eq]; omega)]
    exact ⟨rfl, rfl⟩)
  obtain ⟨RR, hRR⟩ : ∃ RR, redW t.data.toList n = RR := ⟨_, rfl⟩
  rw [hRR]
  have HRR := hide hRR
  clear h hv c1 c2 c3 h1 h2 hK bk hRR
  go_enter Try.func10, Try.ntmps10
  go_wp2_with fail
  refine (C2.out _).mono ?_
  rintro e w1 ⟨rfl, m, hw⟩
  subst hw
  go_wp2_with fail
  go_loopw [7, 8, 9] (fun vw vn vi wr => ∃ (j : Nat), vi = .int .i64 ((j : Int) - 1) ∧ vw = .int .i64 (ixV (fstF (fun i => wiR (rp t.data.toList i) (re t.data.toList i)) K j)) ∧ vn = .int .i64 (ixV (fstF (fun i => naR (rp t.data.toList i) (re t.data.toList i)) K j)) ∧ Hid (j ≤ K ∧ ∃ m, wr = w.drewN m)) (fun _ _ vi _ => ((intOf vi) + 1).toNat)
  case atStart => exact ⟨K, rfl, by rw [fstF_end]; rfl, by rw [fstF_end]; rfl, hide ⟨by omega, _, rfl⟩⟩
  case round =>
    obtain ⟨j, rfl, rfl, rfl, HV⟩ := hrel
    obtain ⟨hj, m5, hwm⟩ := HV.out
    subst hwm
    clear HV
    by_cases hlt : 0 < j
    case neg =>
      obtain rfl : j = 0 := by omega
      rw [fstF_zero, fstF_zero, ← HW1.out, ← HN1.out]
      clear hlt
      have hrd : redW t.data.toList n = match wiI t.data.toList with
        | some i => twV (t.data.toList.drop (rpl t.data.toList i)) n
        | none => match naI t.data.toList with
          | some i => foV (t.data.toList.drop (rpl t.data.toList i)) n
          | none => none := rfl
      have HRD := hide hrd
      clear hrd
      cases hwi : wiI t.data.toList with
      | some i =>
        have E : Hid (RR = twV (t.data.toList.drop (rpl t.data.toList i)) n) := hide (by rw [← HRR.out, HRD.out, hwi])
        have hi : i < K := by have := HW1.out; rw [hwi] at this; exact (fstI_get this.symm).1
        have C4 := hide (fun z w (hz : z = ((8 + 8 * i : Nat) : Int)) => CV.out (8 + 8 * i) z w hz (by have := H3.out; omega))
        have e4 : n4 t.data.toList (8 + 8 * i) = rpl t.data.toList i := rfl
        rw [e4] at C4
        have bp : rpl t.data.toList i < 4294967296 := HLB.out (8 + 8 * i)
        have hix : ixV (some i) = (i : Int) := rfl
        rw [hix]
        generalize ixV (naI t.data.toList) = NX
        generalize rpl t.data.toList i = P at *
        have i0 : (0 : Int) ≤ (i : Int) := by omega
        have i1 : (i : Int) ≤ 65535 := by omega
        have p0 : (0 : Int) ≤ (P : Int) := by omega
        clear HRD hix e4 hwi HW1 HN1
        by_cases hpl : P ≤ t.size
        case pos =>
          have hpl' : (P : Int) ≤ (t.size : Int) := by omega
          have CG := hide (fun w => CTW.out P w hpl)
          have CG : Hid (∀ m, Calls Try.prog 24 #[.string (t.extract P t.size), .int .i64 (n : Int)] (w.drewN m) (AdR (w.drewN m) w.heap.size RR)) := hide (fun m => by rw [E.out]; exact CG.out (w.drewN m))
          clear E
          go_wp2_with fail
          refine (C4.out _ _ (by omega)).mono ?_
          rintro e w1 ⟨rfl, m6, hw⟩
          subst hw
          go_wp2_with fail
          cases RR with
          | none =>
            refine (CG.out _).mono ?_
            rintro e w2 ⟨rfl, ht⟩
            have HT := hide (show Below w.heap.size w w2 from ⟨ht.os, ht.tape, ht.output, ht.size, ht.block⟩)
            clear ht
            go_wp2_with fail
            go_ret2
            exact ⟨rfl, HT.out⟩
          | some cs =>
            refine (CG.out _).mono ?_
            rintro e w2 ⟨v, rfl, hc, ht⟩
            have HCR := hide hc
            have HT := hide (show Below w.heap.size w w2 from ⟨ht.os, ht.tape, ht.output, ht.size, ht.block⟩)
            clear ht hc
            go_wp2_with fail
            go_ret2
            exact ⟨_, rfl, HCR.out, HT.out⟩
        case neg =>
          have hpl' : ¬ (P : Int) ≤ (t.size : Int) := by omega
          have EN := hide (E.out.trans (HDR.out P hpl).1)
          clear E
          go_wp2_with fail
          refine (C4.out _ _ (by omega)).mono ?_
          rintro e w1 ⟨rfl, m6, hw⟩
          subst hw
          go_wp2_with fail
          go_ret2
          rw [EN.out]
          exact ⟨rfl, below_drewN (Below.refl _ _) _⟩
      | none =>
        cases hna : naI t.data.toList with
        | some i =>
          have E : Hid (RR = foV (t.data.toList.drop (rpl t.data.toList i)) n) := hide (by rw [← HRR.out, HRD.out, hwi, hna])
          have hi : i < K := by have := HN1.out; rw [hna] at this; exact (fstI_get this.symm).1
          have C4 := hide (fun z w (hz : z = ((8 + 8 * i : Nat) : Int)) => CV.out (8 + 8 * i) z w hz (by have := H3.out; omega))
          have e4 : n4 t.data.toList (8 + 8 * i) = rpl t.data.toList i := rfl
          rw [e4] at C4
          have bp : rpl t.data.toList i < 4294967296 := HLB.out (8 + 8 * i)
          have hix : ixV (some i) = (i : Int) := rfl
          have hix2 : ixV none = -1 := rfl
          rw [hix, hix2]
          generalize rpl t.data.toList i = P at *
          have i0 : (0 : Int) ≤ (i : Int) := by omega
          have i1 : (i : Int) ≤ 65535 := by omega
          have p0 : (0 : Int) ≤ (P : Int) := by omega
          clear HRD hix e4 hwi HW1 HN1 hix2 hna
          by_cases hpl : P ≤ t.size
          case pos =>
            have hpl' : (P : Int) ≤ (t.size : Int) := by omega
            have CG := hide (fun w => CFO.out P w hpl)
            have CG : Hid (∀ m, Calls Try.prog 25 #[.string (t.extract P t.size), .int .i64 (n : Int)] (w.drewN m) (AdR (w.drewN m) w.heap.size RR)) := hide (fun m => by rw [E.out]; exact CG.out (w.drewN m))
            clear E
            go_wp2_with fail
            refine (C4.out _ _ (by omega)).mono ?_
            rintro e w1 ⟨rfl, m6, hw⟩
            subst hw
            go_wp2_with fail
            cases RR with
            | none =>
              refine (CG.out _).mono ?_
              rintro e w2 ⟨rfl, ht⟩
              have HT := hide (show Below w.heap.size w w2 from ⟨ht.os, ht.tape, ht.output, ht.size, ht.block⟩)
              clear ht
              go_wp2_with fail
              go_ret2
              exact ⟨rfl, HT.out⟩
            | some cs =>
              refine (CG.out _).mono ?_
              rintro e w2 ⟨v, rfl, hc, ht⟩
              have HCR := hide hc
              have HT := hide (show Below w.heap.size w w2 from ⟨ht.os, ht.tape, ht.output, ht.size, ht.block⟩)
              clear ht hc
              go_wp2_with fail
              go_ret2
              exact ⟨_, rfl, HCR.out, HT.out⟩
          case neg =>
            have hpl' : ¬ (P : Int) ≤ (t.size : Int) := by omega
            have EN := hide (E.out.trans (HDR.out P hpl).2)
            clear E
            go_wp2_with fail
            refine (C4.out _ _ (by omega)).mono ?_
            rintro e w1 ⟨rfl, m6, hw⟩
            subst hw
            go_wp2_with fail
            go_ret2
            rw [EN.out]
            exact ⟨rfl, below_drewN (Below.refl _ _) _⟩
        | none =>
          have E : Hid (RR = none) := hide (by rw [← HRR.out, HRD.out, hwi, hna])
          have hix2 : ixV none = -1 := rfl
          rw [hix2]
          clear HRD hwi HW1 HN1 hix2 hna
          go_wp2_with fail
          go_ret2
          rw [E.out]
          exact ⟨rfl, below_drewN (Below.refl _ _) _⟩
    obtain ⟨q, rfl⟩ : ∃ q, j = q + 1 := ⟨j - 1, by omega⟩
    have hqi : (((q + 1 : Nat) : Int) - 1) = (q : Int) := by omega
    rw [hqi]
    have hqk : q < K := by omega
    have q0 : (0 : Int) ≤ (q : Int) := by omega
    have q1 : (q : Int) ≤ 65535 := by omega
    have Cp := hide (fun z w (hz : z = ((4 + 8 * q : Nat) : Int)) => CU.out (4 + 8 * q) z w hz (by have := H3.out; omega))
    have Ce := hide (fun z w (hz : z = ((6 + 8 * q : Nat) : Int)) => CU.out (6 + 8 * q) z w hz (by have := H3.out; omega))
    have HWT := hide (fun h => fstF_t (p := fun i => wiR (rp t.data.toList i) (re t.data.toList i)) hqk h)
    have HWF := hide (fun h => fstF_f (p := fun i => wiR (rp t.data.toList i) (re t.data.toList i)) hqk h)
    have HNT := hide (fun h => fstF_t (p := fun i => naR (rp t.data.toList i) (re t.data.toList i)) hqk h)
    have HNF := hide (fun h => fstF_f (p := fun i => naR (rp t.data.toList i) (re t.data.toList i)) hqk h)
    have e1 : n2 t.data.toList (4 + 8 * q) = rp t.data.toList q := rfl
    have e2 : n2 t.data.toList (6 + 8 * q) = re t.data.toList q := rfl
    rw [e1] at Cp
    rw [e2] at Ce
    generalize ixV (fstF (fun i => wiR (rp t.data.toList i) (re t.data.toList i)) K (q + 1)) = WX at *
    generalize ixV (fstF (fun i => naR (rp t.data.toList i) (re t.data.toList i)) K (q + 1)) = NX at *
    generalize rp t.data.toList q = P at *
    generalize re t.data.toList q = Q at *
    obtain ⟨pI, hpI⟩ : ∃ pI : Int, (P : Int) = pI := ⟨_, rfl⟩
    obtain ⟨qI, hqI⟩ : ∃ qI : Int, (Q : Int) = qI := ⟨_, rfl⟩
    rw [hpI] at Cp
    rw [hqI] at Ce
    have HPQ := hide (And.intro hpI hqI)
    clear e1 e2 hqi hlt hpI hqI
    by_cases p3 : P = 3
    · by_cases e10 : Q = 10
      · have f0 : (pI == 3) = true := by have := HPQ.out; simp; omega
        have f1 : (qI == 10) = true := by have := HPQ.out; simp; omega
        have f2 : (pI == 0) = false := by have := HPQ.out; simp; omega
        have f3 : (qI == 1) = false := by have := HPQ.out; simp; omega
        have EW := hide (HWT.out (by unfold wiR; simp; omega))
        have EN := hide (HNF.out (by unfold naR; simp; omega))
        clear HWT HWF HNT HNF p3 e10
        go_wp2_with fail
        refine (Cp.out _ _ (by omega)).mono ?_
        rintro e w1 ⟨rfl, m6, hw⟩
        subst hw
        go_wp2_with fail
        refine (Ce.out _ _ (by omega)).mono ?_
        rintro e w1 ⟨rfl, m7, hw⟩
        subst hw
        go_wp2_with fail
        go_roundw
        case rel => exact ⟨q, rfl, by rw [EW.out], by rw [EN.out], hide ⟨by omega, _, rfl⟩⟩
        case measure => simp [intOf]
      by_cases e1 : Q = 1
      · have f0 : (pI == 3) = true := by have := HPQ.out; simp; omega
        have f1 : (qI == 10) = false := by have := HPQ.out; simp; omega
        have f2 : (pI == 0) = false := by have := HPQ.out; simp; omega
        have f3 : (qI == 1) = true := by have := HPQ.out; simp; omega
        have EW := hide (HWF.out (by unfold wiR; simp; omega))
        have EN := hide (HNT.out (by unfold naR; simp; omega))
        clear HWT HWF HNT HNF p3 e10 e1
        go_wp2_with fail
        refine (Cp.out _ _ (by omega)).mono ?_
        rintro e w1 ⟨rfl, m6, hw⟩
        subst hw
        go_wp2_with fail
        refine (Ce.out _ _ (by omega)).mono ?_
        rintro e w1 ⟨rfl, m7, hw⟩
        subst hw
        go_wp2_with fail
        go_roundw
        case rel => exact ⟨q, rfl, by rw [EW.out], by rw [EN.out], hide ⟨by omega, _, rfl⟩⟩
        case measure => simp [intOf]
      have f0 : (pI == 3) = true := by have := HPQ.out; simp; omega
      have f1 : (qI == 10) = false := by have := HPQ.out; simp; omega
      have f2 : (pI == 0) = false := by have := HPQ.out; simp; omega
      have f3 : (qI == 1) = false := by have := HPQ.out; simp; omega
      have EW := hide (HWF.out (by unfold wiR; simp; omega))
      have EN := hide (HNF.out (by unfold naR; simp; omega))
      clear HWT HWF HNT HNF p3 e10 e1
      go_wp2_with fail
      refine (Cp.out _ _ (by omega)).mono ?_
      rintro e w1 ⟨rfl, m6, hw⟩
      subst hw
      go_wp2_with fail
      refine (Ce.out _ _ (by omega)).mono ?_
      rintro e w1 ⟨rfl, m7, hw⟩
      subst hw
      go_wp2_with fail
      go_roundw
      case rel => exact ⟨q, rfl, by rw [EW.out], by rw [EN.out], hide ⟨by omega, _, rfl⟩⟩
      case measure => simp [intOf]
    by_cases p0 : P = 0
    · by_cases e4 : Q = 4
      · have f0 : (pI == 3) = false := by have := HPQ.out; simp; omega
        have f1 : (pI == 0) = true := by have := HPQ.out; simp; omega
        have f2 : (qI == 4) = true := by have := HPQ.out; simp; omega
        have f3 : decide (qI ≤ 3) = false := by have := HPQ.out; simp; omega
        have EW := hide (HWT.out (by unfold wiR; simp; omega))
        have EN := hide (HNF.out (by unfold naR; simp; omega))
        clear HWT HWF HNT HNF p3 p0 e4
        go_wp2_with fail
        refine (Cp.out _ _ (by omega)).mono ?_
        rintro e w1 ⟨rfl, m6, hw⟩
        subst hw
        go_wp2_with fail
        refine (Ce.out _ _ (by omega)).mono ?_
        rintro e w1 ⟨rfl, m7, hw⟩
        subst hw
        go_wp2_with fail
        go_roundw
        case rel => exact ⟨q, rfl, by rw [EW.out], by rw [EN.out], hide ⟨by omega, _, rfl⟩⟩
        case measure => simp [intOf]
      by_cases e3 : Q ≤ 3
      · have f0 : (pI == 3) = false := by have := HPQ.out; simp; omega
        have f1 : (pI == 0) = true := by have := HPQ.out; simp; omega
        have f2 : (qI == 4) = false := by have := HPQ.out; simp; omega
        have f3 : decide (qI ≤ 3) = true := by have := HPQ.out; simp; omega
        have EW := hide (HWF.out (by unfold wiR; simp; omega))
        have EN := hide (HNT.out (by unfold naR; simp; omega))
        clear HWT HWF HNT HNF p3 p0 e4 e3
        go_wp2_with fail
        refine (Cp.out _ _ (by omega)).mono ?_
        rintro e w1 ⟨rfl, m6, hw⟩
        subst hw
        go_wp2_with fail
        refine (Ce.out _ _ (by omega)).mono ?_
        rintro e w1 ⟨rfl, m7, hw⟩
        subst hw
        go_wp2_with fail
        go_roundw
        case rel => exact ⟨q, rfl, by rw [EW.out], by rw [EN.out], hide ⟨by omega, _, rfl⟩⟩
        case measure => simp [intOf]
      have f0 : (pI == 3) = false := by have := HPQ.out; simp; omega
      have f1 : (pI == 0) = true := by have := HPQ.out; simp; omega
      have f2 : (qI == 4) = false := by have := HPQ.out; simp; omega
      have f3 : decide (qI ≤ 3) = false := by have := HPQ.out; simp; omega
      have EW := hide (HWF.out (by unfold wiR; simp; omega))
      have EN := hide (HNF.out (by unfold naR; simp; omega))
      clear HWT HWF HNT HNF p3 p0 e4 e3
      go_wp2_with fail
      refine (Cp.out _ _ (by omega)).mono ?_
      rintro e w1 ⟨rfl, m6, hw⟩
      subst hw
      go_wp2_with fail
      refine (Ce.out _ _ (by omega)).mono ?_
      rintro e w1 ⟨rfl, m7, hw⟩
      subst hw
      go_wp2_with fail
      go_roundw
      case rel => exact ⟨q, rfl, by rw [EW.out], by rw [EN.out], hide ⟨by omega, _, rfl⟩⟩
      case measure => simp [intOf]
    have f0 : (pI == 3) = false := by have := HPQ.out; simp; omega
    have f1 : (pI == 0) = false := by have := HPQ.out; simp; omega
    have EW := hide (HWF.out (by unfold wiR; simp; omega))
    have EN := hide (HNF.out (by unfold naR; simp; omega))
    clear HWT HWF HNT HNF p3 p0
    go_wp2_with fail
    refine (Cp.out _ _ (by omega)).mono ?_
    rintro e w1 ⟨rfl, m6, hw⟩
    subst hw
    go_wp2_with fail
    refine (Ce.out _ _ (by omega)).mono ?_
    rintro e w1 ⟨rfl, m7, hw⟩
    subst hw
    go_wp2_with fail
    go_roundw
    case rel => exact ⟨q, rfl, by rw [EW.out], by rw [EN.out], hide ⟨by omega, _, rfl⟩⟩
    case measure => simp [intOf]
theorem rread_any (t : ByteArray) (n : Nat) (w : World) (hs : t.size ≤ 1073741824) (h1 : 1 ≤ n) (h2 : n ≤ 4096) :
    Calls Try.prog 10 #[.string t, .int .i64 (n : Int)] w (RrR w (redV t.data.toList n)) := by
  cases h : rowB t.data.toList
  · have hv : redV t.data.toList n = none := by unfold redV; rw [h]; rfl
    rw [hv]
    exact rread_bad t n w hs h1 h2 h
  · exact rread_ok t n w hs h1 h2 h
end Go.Proofs.Ytkmmphpaaahajaa
