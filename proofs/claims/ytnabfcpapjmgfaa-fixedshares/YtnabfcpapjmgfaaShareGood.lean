/-
  What fixed.Share answers where it shares: the shares, in new memory.
-/
import Derived.Test.YtnabfcpapjmgfaaShare
namespace Go.Proofs.Ytnabfcpapjmgfaa
open Go.RowKit

theorem own_made (w1 : World) (base g n : Nat) (h : w1.ownsRow base 3 1 (.slice (some ⟨g, 0, none⟩) n n) n (madeCells (Value.int .i64 0).cells (n * 1)).toList) :
    Own w1 base g n n (List.replicate n 0) := by
  unfold Own
  have e : (madeCells (Value.int .i64 0).cells (n * 1)).toList = (List.replicate n (0 : Int)).map (Value.int .i64) := by
    rw [Nat.mul_one, show (Value.int .i64 0).cells = #[Value.int .i64 0] from rfl, toList_madeCells_one, List.map_replicate]
  rw [← e]
  exact h

set_option maxHeartbeats 1000000 in
theorem share_good (t : Int) (a : Option Addr) (len cap : Nat) (zs : List Int) (w : World) (t1 : -9223372036854775808 ≤ t) (t2 : t ≤ 9223372036854775807) (hl : zs.length = len) (h4 : len ≤ 4096) (hL : Lst w a zs) (hok : shOK t zs = true) :
    Calls Try.prog 26 #[.int .i64 t, .slice a len cap] w fun e w' => ∃ g, e = .returned (.tuple #[.slice (some ⟨g, 0, none⟩) len len, .bool true]) ∧ Below w.heap.size w w' ∧ Own w' w.heap.size g len len (shL t zs) := by
  have CS := hide (fun w h => sum_any a len cap zs w hl h4 h)
  have CN := hide (fun w h => neg_any a len cap zs w hl h4 h)
  have HL := hide hL
  unfold shOK at hok
  simp only [Bool.and_eq_true, Bool.not_eq_true'] at hok
  obtain ⟨⟨⟨o1, o2⟩, o3⟩, o4⟩ := hok
  have o5 := o1
  unfold smB at o5
  simp only [Bool.and_eq_true] at o5
  have hv : smV zs = total zs := by unfold smV; rw [o5.1, if_pos rfl, tolV_t o5.2]
  have bT := inB_bd o5.2
  have bd := fun k => total_bd (zs.take k)
  have HW := hide (show ∀ k, -4503599627370496 ≤ total (zs.take k) ∧ total (zs.take k) ≤ 4503599627370496 by
    intro k
    have ha : allIn (zs.take k) = true := by
      have : ∀ (n : Nat) (l : List Int), allIn l = true → allIn (l.take n) = true := by
        intro n l hl'
        induction l generalizing n with
        | nil => simp [allIn]
        | cons x xs ih =>
          cases n with
          | zero => simp [allIn]
          | succ n =>
            simp only [List.take_succ_cons, allIn, Bool.and_eq_true] at hl' ⊢
            exact ⟨hl'.1, ih n hl'.2⟩
      exact this k zs o5.1
    have h1 := total_bd _ ha
    have h2 : (zs.take k).length ≤ 4096 := by rw [List.length_take]; omega
    omega)
  rw [hv, o1] at CS
  rw [o4] at CN
  have HT := hide (show ∀ k x, total (zs.take k) = x → cumF t zs k = flV t x (total zs) by intro k x hx; unfold cumF; rw [hx])
  have HF := hide (show ∀ i, cumF t zs (i + 1) - cumF t zs i = shF t zs i from fun i => rfl)
  have HS := hide (shRow_set t zs len)
  have HZ := hide (shRow_zero t zs len)
  have HE := hide (show shRow t zs len len = shL t zs by rw [← hl]; exact shRow_full t zs)
  have Hl := hide hl
  have HC := hide (cum_zero t zs)
  clear o1 o4 o5 hv hL hl bd
  generalize hTT : total zs = T at *
  obtain ⟨i0, hi, hz0, hz1, hz2⟩ := info_parts info_int
  have hb8 : i0.bytes * len ≤ 281474976710656 := by rw [hz2]; omega
  have hm8 : len ≤ maxLen := by unfold maxLen; omega
  have HI := hide hi
  have HI0 := hide hz0
  have HI1 := hide hz1
  clear hTT hi hz0 hz1 hz2
  go_enter Try.func26, Try.ntmps26
  go_wp2_with (first | (go_at_call 23; refine (CS.out _ HL.out).mono ?_; rintro e w' ⟨rfl, n, rfl⟩) | (go_at_call 13; refine (in_any _ _).mono ?_; rintro e w' ⟨rfl, rfl⟩) | (go_at_call 32; refine (CN.out _ (HL.out.drewN _)).mono ?_; rintro e w' ⟨rfl, rfl⟩) | (at_make; refine wpList_make_full _ rfl _ _ 29 rfl w.heap.size 3 i0 (.int .i64 0) 1 Try.underlying29 HI.out HI0.out HI1.out _ _ _ _ len rfl rfl rfl rfl hb8 hm8 (by simp) ?_; intro w1 hown hgrow))
  have O0 := own_made w1 w.heap.size w.heap.size len hown
  rw [← HZ.out] at O0
  have B0 : Below w.heap.size w w1 := (below_drewN (Below.refl _ _) n).grown hgrow (by simp) (by simp)
  have HO := hide O0
  have HB := hide B0
  clear O0 B0 hown hgrow
  have h5 : (len : Int) ≤ 4096 := by omega
  go_loopw [9, 10, 11, 12, 13, 14, 40] (fun vw vg _ _ _ _ vi wr => ∃ (k : Nat) (W G : Int), vi = .int .i64 k ∧ vw = .int .i64 W ∧ vg = .int .i64 G ∧ Hid (k ≤ len ∧ total (zs.take k) = W ∧ cumF t zs k = G ∧ Below w.heap.size w wr ∧ Own wr w.heap.size w.heap.size len len (shRow t zs len k))) (fun _ _ _ _ _ _ vi _ => len - (intOf vi).toNat)
  case atStart => exact ⟨0, 0, 0, rfl, rfl, rfl, hide ⟨by omega, rfl, HC.out, HB.out, HO.out⟩⟩
  case round =>
    obtain ⟨k, W, G, rfl, rfl, rfl, HR⟩ := hrel
    obtain ⟨k1, k2, k3, k4, k5⟩ := HR.out
    clear HR
    by_cases hlt : k < len
    · have hlt' : (k : Int) < (len : Int) := by omega
      have hl := Hl.out
      have hLr := HL.out.below k4
      rcases hLr with hz | ⟨b, off, rfl, hb, hcell⟩
      · rw [hz] at hl; simp at hl; omega
      have hc := hcell k (by omega)
      have hts := take_snoc zs k (by omega)
      generalize zs.getD k 0 = z at *
      have hW' : total (zs.take (k + 1)) = W + z := by rw [hts, total_snoc, k2]
      have bW := HW.out k
      have bW2 := HW.out (k + 1)
      rw [k2] at bW
      rw [hW'] at bW2
      have hD := HT.out (k + 1) (W + z) hW'
      have hF := HF.out k
      rw [hD, k3] at hF
      have bG : -1099511627776 ≤ G ∧ G ≤ 1099511627776 := by rw [← k3]; unfold cumF; exact flV_bd _ _ _
      have bD := flV_bd t (W + z) T
      have CF := hide (fun w => floor_any t (W + z) T t1 t2 (by omega) (by omega) (by omega) w)
      generalize hDD : flV t (W + z) T = D at *
      generalize flB t (W + z) T = DB at *
      have hcg : ∃ x, wr.cell? ⟨w.heap.size, k, none⟩ = some (.int .i64 x) := by
        rcases k5.lst (shRow_len t zs len k) with h | ⟨b', off', e, _, h⟩
        · have := shRow_len t zs len k; rw [h] at this; simp at this; omega
        · simp only [Option.some.injEq, Addr.mk.injEq] at e
          obtain ⟨rfl, rfl, _⟩ := e
          have := h k (by rw [shRow_len]; exact hlt)
          rw [Nat.zero_add] at this
          exact ⟨_, this⟩
      obtain ⟨x, hcg⟩ := hcg
      have hfg : wr.frozen? ⟨w.heap.size, k, none⟩ = false := World.ownsRow.frozenAt k5 k
      have K4 := hide k4
      have K5 := hide (show ∀ m, Own ((wr.drewN m).setCell ⟨w.heap.size, k, none⟩ (.int .i64 (D - G))) w.heap.size w.heap.size len len (shRow t zs len (k + 1)) by
        intro m
        rw [← HS.out k, ← hF]
        exact (k5.drewN m).stored k (D - G))
      have KW := hide hW'
      have KD := hide hD
      clear k2 k3 k4 k5 hts hcell hl hW' hF hD hDD
      go_wp2_with (go_at_call 20; refine (CF.out _).mono ?_; rintro e w' ⟨rfl, m, rfl⟩)
      go_roundw
      case rel => exact ⟨k + 1, W + z, D, by go_num, rfl, rfl, hide ⟨by omega, KW.out, KD.out, (below_drewN K4.out m).setCell (Nat.le_refl _) _, K5.out m⟩⟩
      case measure => simp [intOf]; omega
    · have hlt' : ¬ (k : Int) < (len : Int) := by omega
      obtain rfl : k = len := by omega
      rw [HE.out] at k5
      have K4 := hide k4
      have K5 := hide k5
      clear k2 k3 k4 k5
      go_wp2
      go_ret2
      exact ⟨w.heap.size, rfl, K4.out, K5.out⟩
end Go.Proofs.Ytnabfcpapjmgfaa
