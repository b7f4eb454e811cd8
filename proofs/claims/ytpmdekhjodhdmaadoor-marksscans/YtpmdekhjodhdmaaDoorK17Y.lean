/-
  What the reference's Same answers of tokens that are alike, and the law's places.
-/
import Derived.Test.YtpmdekhjodhdmaaDoorK17V
import Derived.Deep.QuietTactic
import Derived.BigQuiet
namespace Go.Proofs.YtpmdekhjodhdmaaDoor.K17
open Go.RowKit Go.Proofs.YtpmdekhjodhdmaaDoor
open Go.Lib
set_option linter.unusedVariables false
set_option linter.unusedSimpArgs false
set_option maxRecDepth 8000

/- alike, places apart -/
def noA (t : Tk) : Tk := { t with a := 0 }
def Alike (ts us : List Tk) : Prop := ts.map noA = us.map noA
theorem Alike.len {ts us : List Tk} (h : Alike ts us) : ts.length = us.length := by have := congrArg List.length h; simpa using this
theorem Alike.at' {ts us : List Tk} (h : Alike ts us) (i : Nat) : (us.getD i tk0.1).k = (ts.getD i tk0.1).k ∧ (us.getD i tk0.1).x = (ts.getD i tk0.1).x ∧ (us.getD i tk0.1).t = (ts.getD i tk0.1).t ∧ (us.getD i tk0.1).ps = (ts.getD i tk0.1).ps := by
  have hg : ∀ l : List Tk, (l.map noA).getD i tk0.1 = noA (l.getD i tk0.1) := fun l => by
    rw [List.getD_eq_getElem?_getD, List.getD_eq_getElem?_getD, List.getElem?_map]
    cases l[i]? <;> rfl
  have := hg ts
  rw [h, hg us] at this
  unfold noA at this
  simp only [Tk.mk.injEq] at this
  exact ⟨this.1, this.2.1, this.2.2.1, this.2.2.2.1⟩
theorem beq_self (s : ByteArray) : (s.toList == s.toList) = true := by simp
set_option maxHeartbeats 4000000 in
theorem same_any (a b : Option Addr) (ca cb n : Nat) (ts us : List Tk) (w : World) (hl : ts.length = n) (h6 : n ≤ 1048576) (ha : TLs w a ts) (hb : TLs w b us) (hA : Alike ts us) :
    Calls Tryd.prog 19 #[.slice a n ca, .slice b n cb] w fun e w' => e = .returned (.bool true) ∧ Below w.heap.size w w' := by
  have h6' : (n : Int) ≤ 1048576 := by omega
  have HA := hide ha
  have HB := hide hb
  have HAL := hide hA
  have HL := hide hl
  have HU := hide (show us.length = n by rw [← hA.len]; exact hl)
  clear ha hb hA hl
  go_enter Tryd.func19, Tryd.ntmps19
  go_wp2_with fail
  go_loopw [5] (fun vi wr => ∃ k : Nat, vi = .int .i64 k ∧ Hid (k ≤ n ∧ Below w.heap.size w wr)) (fun vi _ => n - (RowKit.intOf vi).toNat)
  case atStart => exact ⟨0, rfl, hide ⟨by omega, Below.refl _ _⟩⟩
  case round =>
    obtain ⟨k, rfl, HK⟩ := hrel
    obtain ⟨k1, k2⟩ := HK.out
    clear HK
    by_cases hlt : k < n
    · have hlt' : (k : Int) < (n : Int) := by omega
      rcases HA.out.below k2 with h0 | ⟨b1, o1, rfl, hb1, hc1⟩
      · have := HL.out; rw [h0] at this; simp at this; omega
      rcases HB.out.below k2 with h0 | ⟨b2, o2, rfl, hb2, hc2⟩
      · have := HU.out; rw [h0] at this; simp at this; omega
      obtain ⟨aa, ac, hL1, hz1, p0, p1, p2, p3, _⟩ := hc1 k (by have := HL.out; omega)
      obtain ⟨ba, bc, hL2, hz2, r0, r1, r2, r3, _⟩ := hc2 k (by have := HU.out; omega)
      obtain ⟨e1, e2, e3, e4⟩ := HAL.out.at' k
      rw [e1] at r0; rw [e2] at r1; rw [e3] at r2; rw [e4] at r3 hL2
      generalize ts.getD k tk0.1 = t at *
      obtain ⟨tk, tx, tt, tps, ta⟩ := t
      simp only at p0 p1 p2 p3 r0 r1 r2 r3 hL1 hL2 hz1
      obtain ⟨X, hX⟩ : ∃ X : ByteArray, (⟨tx.toArray⟩ : ByteArray) = X := ⟨_, rfl⟩
      obtain ⟨Y, hY⟩ : ∃ X : ByteArray, (⟨tt.toArray⟩ : ByteArray) = X := ⟨_, rfl⟩
      rw [hX] at p1 r1
      rw [hY] at p2 r2
      have s1 := beq_self X
      have s2 := beq_self Y
      obtain ⟨m, hm⟩ : ∃ m, tps.length = m := ⟨_, rfl⟩
      rw [hm] at p3 r3
      have hm' : (m : Int) ≤ 1000000 := by omega
      have hkk : ((tk : Int) == tk) = true := by simp
      have K2 := hide k2
      have L1 := hide hL1
      have L2 := hide hL2
      have HMM := hide hm
      clear k2 hL1 hL2 hc1 hc2 hX hY e1 e2 e3 e4 hz1 hz2 hm
      go_wp2_with fail
      go_quiet (fail)
      go_wp2_with fail
      go_loopw [6] (fun vj wz => ∃ j : Nat, vj = .int .i64 j ∧ Hid (j ≤ m ∧ Below wr.heap.size wr wz)) (fun vj _ => m - (RowKit.intOf vj).toNat)
      case atStart => exact ⟨0, rfl, hide ⟨by omega, below_drewN' _ _⟩⟩
      case round =>
        obtain ⟨j, rfl, HJ⟩ := hrel
        obtain ⟨j1, j2⟩ := HJ.out
        clear HJ
        have p3' : wr.cell? ⟨b1, o1 + k * 5 + 3, none⟩ = some (.slice aa m ac) := by rw [j2.cell (p := ⟨b1, o1 + k * 5 + 3, none⟩) hb1]; exact p3
        have r3' : wr.cell? ⟨b2, o2 + k * 5 + 3, none⟩ = some (.slice ba m bc) := by rw [j2.cell (p := ⟨b2, o2 + k * 5 + 3, none⟩) hb2]; exact r3
        clear p0 p1 p2 p3 r0 r1 r2 r3 s1 s2 hkk
        by_cases hj : j < m
        · have hj' : (j : Int) < (m : Int) := by omega
          rcases L1.out.below j2 with h0 | ⟨c1, f1, rfl, hc1, ha1⟩
          · have := HMM.out; rw [h0] at this; simp at this; omega
          rcases L2.out.below j2 with h0 | ⟨c2, f2, rfl, hc2, ha2⟩
          · have := HMM.out; rw [h0] at this; simp at this; omega
          obtain ⟨x0, x1⟩ := ha1 j (by have := HMM.out; omega)
          obtain ⟨y0, y1⟩ := ha2 j (by have := HMM.out; omega)
          generalize tps.getD j ([], []) = q at *
          obtain ⟨q1, q2⟩ := q
          simp only at x0 x1 y0 y1
          obtain ⟨X1, hX⟩ : ∃ X : ByteArray, (⟨q1.toArray⟩ : ByteArray) = X := ⟨_, rfl⟩
          obtain ⟨Y1, hY⟩ : ∃ X : ByteArray, (⟨q2.toArray⟩ : ByteArray) = X := ⟨_, rfl⟩
          rw [hX] at x0 y0
          rw [hY] at x1 y1
          have J2 := hide j2
          clear ha1 ha2 j2 hX hY
          have s1 := beq_self X1
          have s2 := beq_self Y1
          go_wp2_with fail
          go_quiet (fail)
          go_wp2_with fail
          go_roundw
          case rel => exact ⟨j + 1, by go_num, hide ⟨by omega, J2.out.trans (below_drewN' _ _ |>.mono J2.out.size)⟩⟩
          case measure => simp [RowKit.intOf]; omega
        · have hj' : ¬ (j : Int) < (m : Int) := by omega
          have J2 := hide j2
          clear j2
          go_wp2_with fail
          go_roundw
          case rel => exact ⟨k + 1, by go_num, hide ⟨by omega, K2.out.trans (J2.out.mono K2.out.size)⟩⟩
          case measure => simp [RowKit.intOf]; omega
    · have hlt' : ¬ (k : Int) < (n : Int) := by omega
      go_wp2_with fail
      go_ret
      exact ⟨rfl, k2⟩
end Go.Proofs.YtpmdekhjodhdmaaDoor.K17
