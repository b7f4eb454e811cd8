/-
  What the landed tagsRise answers.
-/
import Derived.Test.YtgmmhlpdkoiheaaDoorS8Gp
import Derived.Deep.LoopGhost
namespace Go.Proofs.YtgmmhlpdkoiheaaDoor
open Go.RowKit Go.Deep
set_option linter.unusedVariables false

abbrev rC (b0 b1 b2 b3 : UInt8) (sum pl ln : Int) : Array Value := #[.int .u8 (b0.toNat : Int), .int .u8 (b1.toNat : Int), .int .u8 (b2.toNat : Int), .int .u8 (b3.toNat : Int), .int .i64 sum, .int .i64 pl, .int .i64 ln]
theorem gd_no {c : UInt8} (h : (c.toNat : Int) < 32 ∨ (126 : Int) < (c.toNat : Int)) : gdB c = false := by
  unfold gdB
  rcases h with h | h
  · rw [show decide (32 ≤ c.toNat) = false by rw [decide_eq_false_iff_not]; omega]; rfl
  · rw [show decide (c.toNat ≤ 126) = false by rw [decide_eq_false_iff_not]; omega]; simp
theorem gd_yes {c : UInt8} (h : ¬ (c.toNat : Int) < 32) (h' : ¬ (126 : Int) < (c.toNat : Int)) : gdB c = true := by
  unfold gdB
  rw [Bool.and_eq_true, decide_eq_true_eq, decide_eq_true_eq]
  omega
set_option maxRecDepth 8000 in
set_option maxHeartbeats 4000000 in
theorem tagsRise_any (rs : List Rw) (b n c : Nat) (w : World) (hn : rs.length = n) (hm : n ≤ 1000000) (h : RLst w b rs) :
    Calls Tryd.prog 46 #[.slice (some ⟨b, 0, none⟩) n c] w fun e w' => e = .returned (.bool (riseB [0, 0, 0, 0] rs)) ∧ Below w.heap.size w w' := by
  have i0 := tx_0
  have i1 := tx_1
  have i2 := tx_2
  have i3 := tx_3
  obtain ⟨R, hR⟩ : ∃ R, riseB [0, 0, 0, 0] rs = R := ⟨_, rfl⟩
  rw [hR]
  have hm' : (n : Int) ≤ 1000000 := by omega
  have HL := hide h
  have HN := hide hn
  have HR := hide hR
  have hb := h.1
  clear h hn hR hm
  go_enter Tryd.func46, Tryd.ntmps46
  go_wp2_with fail
  go_step3
  go_wp2_with fail
  go_step3
  go_wp2_with fail
  go_loopg [3, 11] n (fun g vr vi wr => ∃ (k : Nat) (a0 a1 a2 a3 : UInt8), vi = .int .i64 k ∧ vr = .bool true ∧ Hid (g + k = n ∧ riseB [a0, a1, a2, a3] (rs.drop k) = R ∧ Below w.heap.size w wr ∧ Blk wr w.heap.size (tgC a0 a1 a2 a3) 54))
  case atStart => exact ⟨0, 0, 0, 0, 0, rfl, rfl, hide ⟨by omega, by rw [List.drop_zero]; exact HR.out, (Below.refl _ _).alloc (Nat.le_refl _) _, Blk.new _ _ _⟩⟩
  case round =>
    obtain ⟨k, a0, a1, a2, a3, rfl, rfl, HV⟩ := hrel
    obtain ⟨hg, hr, hbw, hK⟩ := HV.out
    have hk0 : (0 : Int) ≤ (k : Int) := by omega
    clear HV
    have HBW := hide hbw
    have HK := hide hK
    have HG := hide hg
    by_cases hlt : k < n
    case neg =>
      have hlt' : ¬ (k : Int) < (n : Int) := by omega
      have e : R = true := by rw [← hr, List.drop_eq_nil_of_le (by have := HN.out; omega)]; rfl
      subst e
      clear hr hbw hK hg HK
      go_wp2_with fail
      go_ret
      exact ⟨rfl, HBW.out⟩
    have hlt' : (k : Int) < (n : Int) := by omega
    obtain ⟨r, hx⟩ : ∃ r, rs[k]? = some r := ⟨_, List.getElem?_eq_getElem (by have := HN.out; omega)⟩
    obtain ⟨g0, g1, g2, g3, g4, g5, g6⟩ := (HL.out.kept hbw hb).2 k r hx
    rw [drop_at rs k hx, riseB] at hr
    have hbr : b < wr.heap.size := Nat.lt_of_lt_of_le hb hbw.size
    have hne1 : b ≠ wr.heap.size := by omega
    have hwr : w.heap.size < wr.heap.size := hK.lt
    have hne2 : w.heap.size ≠ wr.heap.size := by omega
    obtain ⟨b0, b1, b2, b3, sum, pl, ln⟩ := r
    simp only [goodT, tgT] at g0 g1 g2 g3 g4 g5 g6 hr
    have u0 : (b0.toNat : Int) ≤ 255 := by have := b0.toNat_lt; omega
    have u1 : (b1.toNat : Int) ≤ 255 := by have := b1.toNat_lt; omega
    have u2 : (b2.toNat : Int) ≤ 255 := by have := b2.toNat_lt; omega
    have u3 : (b3.toNat : Int) ≤ 255 := by have := b3.toNat_lt; omega
    have HX := hide hr
    have HBV := hide (show Below w.heap.size w (wr.alloc (.cells (rC b0 b1 b2 b3 sum pl ln) 56)) from hbw.alloc hbw.size _)
    clear hr hbw hK hx hg
    by_cases h0 : (b0.toNat : Int) < 32
    case pos =>
      have e : R = false := by
        rw [← HX.out, gd_no (Or.inl h0)]
        simp
      subst e
      clear HX HK
      go_wp2_with fail
      refine wp_loop_rounds 5 ?_
      rw [rounds_succ]; go_wp2_with fail
      rw [Exit.noGoto_ret]
      go_ret
      exact ⟨rfl, HBV.out⟩
    by_cases l0 : (126 : Int) < (b0.toNat : Int)
    case pos =>
      have e : R = false := by
        rw [← HX.out, gd_no (Or.inr l0)]
        simp
      subst e
      clear HX HK
      go_wp2_with fail
      refine wp_loop_rounds 5 ?_
      rw [rounds_succ]; go_wp2_with fail
      rw [Exit.noGoto_ret]
      go_ret
      exact ⟨rfl, HBV.out⟩
    by_cases h1 : (b1.toNat : Int) < 32
    case pos =>
      have e : R = false := by
        rw [← HX.out, gd_no (Or.inl h1)]
        simp
      subst e
      clear HX HK
      go_wp2_with fail
      refine wp_loop_rounds 5 ?_
      rw [rounds_succ]; go_wp2_with fail
      rw [rounds_succ]; go_wp2_with fail
      rw [Exit.noGoto_ret]
      go_ret
      exact ⟨rfl, HBV.out⟩
    by_cases l1 : (126 : Int) < (b1.toNat : Int)
    case pos =>
      have e : R = false := by
        rw [← HX.out, gd_no (Or.inr l1)]
        simp
      subst e
      clear HX HK
      go_wp2_with fail
      refine wp_loop_rounds 5 ?_
      rw [rounds_succ]; go_wp2_with fail
      rw [rounds_succ]; go_wp2_with fail
      rw [Exit.noGoto_ret]
      go_ret
      exact ⟨rfl, HBV.out⟩
    by_cases h2 : (b2.toNat : Int) < 32
    case pos =>
      have e : R = false := by
        rw [← HX.out, gd_no (Or.inl h2)]
        simp
      subst e
      clear HX HK
      go_wp2_with fail
      refine wp_loop_rounds 5 ?_
      rw [rounds_succ]; go_wp2_with fail
      rw [rounds_succ]; go_wp2_with fail
      rw [rounds_succ]; go_wp2_with fail
      rw [Exit.noGoto_ret]
      go_ret
      exact ⟨rfl, HBV.out⟩
    by_cases l2 : (126 : Int) < (b2.toNat : Int)
    case pos =>
      have e : R = false := by
        rw [← HX.out, gd_no (Or.inr l2)]
        simp
      subst e
      clear HX HK
      go_wp2_with fail
      refine wp_loop_rounds 5 ?_
      rw [rounds_succ]; go_wp2_with fail
      rw [rounds_succ]; go_wp2_with fail
      rw [rounds_succ]; go_wp2_with fail
      rw [Exit.noGoto_ret]
      go_ret
      exact ⟨rfl, HBV.out⟩
    by_cases h3 : (b3.toNat : Int) < 32
    case pos =>
      have e : R = false := by
        rw [← HX.out, gd_no (Or.inl h3)]
        simp
      subst e
      clear HX HK
      go_wp2_with fail
      refine wp_loop_rounds 5 ?_
      rw [rounds_succ]; go_wp2_with fail
      rw [rounds_succ]; go_wp2_with fail
      rw [rounds_succ]; go_wp2_with fail
      rw [rounds_succ]; go_wp2_with fail
      rw [Exit.noGoto_ret]
      go_ret
      exact ⟨rfl, HBV.out⟩
    by_cases l3 : (126 : Int) < (b3.toNat : Int)
    case pos =>
      have e : R = false := by
        rw [← HX.out, gd_no (Or.inr l3)]
        simp
      subst e
      clear HX HK
      go_wp2_with fail
      refine wp_loop_rounds 5 ?_
      rw [rounds_succ]; go_wp2_with fail
      rw [rounds_succ]; go_wp2_with fail
      rw [rounds_succ]; go_wp2_with fail
      rw [rounds_succ]; go_wp2_with fail
      rw [Exit.noGoto_ret]
      go_ret
      exact ⟨rfl, HBV.out⟩
    have hgood : (gdB b0 && (gdB b1 && (gdB b2 && gdB b3))) = true := by rw [gd_yes h0 l0, gd_yes h1 l1, gd_yes h2 l2, gd_yes h3 l3]; rfl
    have hr := HX.out
    rw [hgood, Bool.true_and] at hr
    clear HX hgood
    obtain ⟨z, hz⟩ : ∃ z, Extern.BytealgCompare.cmp ⟨([a0, a1, a2, a3] : List UInt8).toArray⟩ ⟨([b0, b1, b2, b3] : List UInt8).toArray⟩ = z := ⟨_, rfl⟩
    have hc4 := cmp4 a0 a1 a2 a3 b0 b1 b2 b3
    rw [hz] at hc4
    have k0 := HK.out.below ((Below.refl _ _).alloc (Nat.le_refl _) (.cells (rC b0 b1 b2 b3 sum pl ln) 56))
    have k1 := Blk.new wr (rC b0 b1 b2 b3 sum pl ln) 56
    have hbx : b < (wr.alloc (.cells (rC b0 b1 b2 b3 sum pl ln) 56)).heap.size := by simp; omega
    go_wp2_with fail
    refine wp_loop_rounds 5 ?_
    rw [rounds_succ]; go_wp2_with fail
    rw [rounds_succ]; go_wp2_with fail
    rw [rounds_succ]; go_wp2_with fail
    rw [rounds_succ]; go_wp2_with fail
    rw [rounds_succ]; go_wp2_with fail
    rename_i kk0
    have HA := hide kk0
    clear kk0
    generalize wr.alloc (.cells (rC b0 b1 b2 b3 sum pl ln) 56) = V at k0 k1 HBV hbx ⊢
    have CC := hide (fun m => compare_any w.heap.size 0 wr.heap.size 0 4 4 [a0, a1, a2, a3] [b0, b1, b2, b3] (V.drewN m) (fun j x hx => by
        have hc : (V.drewN m).cell? ⟨w.heap.size, 0 + j, none⟩ = V.cell? ⟨w.heap.size, 0 + j, none⟩ := rfl
        rw [hc, k0.cell]
        match j, hx with
        | 0, hx => cases hx; rfl
        | 1, hx => cases hx; rfl
        | 2, hx => cases hx; rfl
        | 3, hx => cases hx; rfl
        | j + 4, hx => cases hx) (fun j x hx => by
        have hc : (V.drewN m).cell? ⟨wr.heap.size, 0 + j, none⟩ = V.cell? ⟨wr.heap.size, 0 + j, none⟩ := rfl
        rw [hc, k1.cell]
        match j, hx with
        | 0, hx => cases hx; rfl
        | 1, hx => cases hx; rfl
        | 2, hx => cases hx; rfl
        | 3, hx => cases hx; rfl
        | j + 4, hx => cases hx))
    rw [hz] at CC
    obtain ⟨q0, q1, q2, q3⟩ : (V.cell? ⟨w.heap.size, 0, none⟩ = some (.int .u8 (a0.toNat : Int)) ∧ V.cell? ⟨w.heap.size, 1, none⟩ = some (.int .u8 (a1.toNat : Int)) ∧ V.cell? ⟨w.heap.size, 2, none⟩ = some (.int .u8 (a2.toNat : Int)) ∧ V.cell? ⟨w.heap.size, 3, none⟩ = some (.int .u8 (a3.toNat : Int))) := ⟨k0.cell 0, k0.cell 1, k0.cell 2, k0.cell 3⟩
    obtain ⟨r0, r1, r2, r3⟩ : (V.cell? ⟨wr.heap.size, 0, none⟩ = some (.int .u8 (b0.toNat : Int)) ∧ V.cell? ⟨wr.heap.size, 1, none⟩ = some (.int .u8 (b1.toNat : Int)) ∧ V.cell? ⟨wr.heap.size, 2, none⟩ = some (.int .u8 (b2.toNat : Int)) ∧ V.cell? ⟨wr.heap.size, 3, none⟩ = some (.int .u8 (b3.toNat : Int))) := ⟨k1.cell 0, k1.cell 1, k1.cell 2, k1.cell 3⟩
    have f0 := k0.frozen 0
    have f1 := k0.frozen 1
    have f2 := k0.frozen 2
    have f3 := k0.frozen 3
    have K0 := hide k0
    clear k0 k1 g0 g1 g2 g3 g4 g5 g6 hne1 hne2 hz HK h0 h1 h2 h3 l0 l1 l2 l3
    cases hl : Op.bytesLess [a0, a1, a2, a3] [b0, b1, b2, b3] with
    | false =>
      rw [hl] at hr hc4
      have hz0 : (0 : Int) ≤ z := by simpa using hc4
      have e : R = false := by rw [← hr]; rfl
      subst e
      clear hr hc4 hl
      go_quiet ((go_at_call 58; exact Calls.quiet_of_same (CC.out _)))
      refine HA.out _ _ ?_
      go_wp2_with fail
      rw [Exit.noGoto_ret]
      go_ret
      exact ⟨rfl, below_drewN HBV.out _⟩
    | true =>
      rw [hl, Bool.true_and] at hr
      rw [hl] at hc4
      have hz0 : ¬ (0 : Int) ≤ z := by simpa using hc4
      have HR2 := hide hr
      clear hr hc4 hl
      go_quiet ((go_at_call 58; exact Calls.quiet_of_same (CC.out _)))
      refine HA.out _ _ ?_
      go_wp2_with fail
      go_roundg (n - (k + 1))
      case rel =>
        refine ⟨k + 1, b0, b1, b2, b3, by go_num, rfl, hide ⟨by have := HG.out; omega, HR2.out, ?_, ?_⟩⟩
        · exact ((((below_drewN HBV.out _).setCell (p := ⟨w.heap.size, 0, none⟩) (Nat.le_refl _) _).setCell (p := ⟨w.heap.size, 1, none⟩) (Nat.le_refl _) _).setCell (p := ⟨w.heap.size, 2, none⟩) (Nat.le_refl _) _).setCell (p := ⟨w.heap.size, 3, none⟩) (Nat.le_refl _) _
        · exact (((K0.out.set 0 (.int .u8 (b0.toNat : Int))).set 1 (.int .u8 (b1.toNat : Int))).set 2 (.int .u8 (b2.toNat : Int))).set 3 (.int .u8 (b3.toNat : Int))
      case measure => have := HG.out; omega
end Go.Proofs.YtgmmhlpdkoiheaaDoor
