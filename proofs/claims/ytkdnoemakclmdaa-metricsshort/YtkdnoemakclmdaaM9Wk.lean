/-
  What Read answers of what was built; the law's Large, small and wakes.
-/
import Derived.Test.YtkdnoemakclmdaaM9Cp
namespace Go.Proofs.Ytkdnoemakclmdaa
open Go.RowKit Go.Deep
set_option linter.unusedVariables false

def ints (zs : List Int) : Array Value := (zs.map (Value.int .i64)).toArray
theorem arr_ints {f : Nat → Int} {zs : List Int} {n : Nat} (hn : zs.length = n) (h : ∀ i, i < n → f i = zs.getD i 0) : arr f n n = ints zs := by
  apply Array.ext_getElem?
  intro j
  by_cases hj : j < n
  · rw [arr_at _ _ _ _ hj, if_pos hj, h j hj]
    unfold ints
    simp [hn, hj, List.getD_eq_getElem?_getD]
  · rw [Array.getElem?_eq_none (by rw [arr_size]; omega), Array.getElem?_eq_none (by simp [ints]; omega)]
theorem ints_lst {w : World} {p : Nat} {zs : List Int} (h : Blk w p (ints zs) 3) : Lst w (some ⟨p, 0, none⟩) zs := by
  refine Or.inr ⟨p, 0, rfl, h.lt, fun i hi => ?_⟩
  rw [h.cell, Nat.zero_add]
  unfold ints
  simp [hi, List.getD_eq_getElem?_getD]
theorem tab_lst {w : World} {g n : Nat} {m : Mt} (hn : m.ad.length = n) (h : Blk w g (tabC m n) 34) : TLst w (some ⟨g, 0, none⟩) (tabs m) := by
  subst hn
  refine Or.inr ⟨g, 0, rfl, h.lt, fun i x hx => ?_⟩
  rw [h.cell, h.cell]
  match i, hx with
  | 0, hx => simp [tabs] at hx; subst hx; exact ⟨rfl, rfl⟩
  | 1, hx => simp [tabs] at hx; subst hx; exact ⟨rfl, rfl⟩
  | 2, hx => simp [tabs] at hx; subst hx; exact ⟨rfl, rfl⟩
  | 3, hx => simp [tabs] at hx; subst hx; exact ⟨rfl, rfl⟩
  | i + 4, hx => simp [tabs] at hx
theorem rdb_any (m : Mt) (g n : Nat) (w : World) (hg : goodB m = true) (hn : m.ad.length = n) (h : Blk w g (tabC m n) 34) :
    Calls Try.prog 8 #[.slice (some ⟨g, 0, none⟩) 4 4] w fun e w' => ∃ p q, e = .returned (.tuple #[.agg (mcs m (.slice (some ⟨p, 0, none⟩) n n) (.slice (some ⟨q, 0, none⟩) n n)), .int .i64 0]) ∧
      Blk w' p (ints m.ad) 3 ∧ Blk w' q (ints m.be) 3 ∧ w.heap.size ≤ p ∧ w.heap.size ≤ q ∧ p ≠ q ∧ Below w.heap.size w w' := by
  have h' := tab_lst hn h
  subst hn
  obtain ⟨_, _, _, g4, g5, _, _⟩ := good_in hg
  have B := back_of m hg
  refine (rd_any (some ⟨g, 0, none⟩) (tabs m) 4 4 w rfl (by omega) (fun x hx => ?_) h').mono ?_
  · simp [tabs] at hx
    rcases hx with rfl | rfl | rfl | rfl
    · simp [ByteArray.size, hdT_len]
    · simp [ByteArray.size, hhT_len]
    · simp [ByteArray.size, hmT_len]; omega
    · simp [ByteArray.size, mxT_len]
  · intro e w' hR
    rcases hR with ⟨hR, _⟩ | ⟨mx, hd, hh, hx, p, q, hR, rfl, hb, hp, hq, hpq, kp, kq⟩
    · rw [B.r] at hR; cases hR
    · rw [B.r] at hR
      injection hR with hR
      injection hR with e1 hR
      injection hR with e2 hR
      injection hR with e3 e4
      subst e1 e2 e3 e4
      have ea := arr_ints (f := advF ⟨(hmT m.ad m.be m.ad.length).toArray⟩ (hV ⟨(hhT m m.ad.length).toArray⟩)) rfl B.ad
      have eb := arr_ints (f := beaF ⟨(hmT m.ad m.be m.ad.length).toArray⟩ (hV ⟨(hhT m m.ad.length).toArray⟩)) g5 B.be
      rw [B.n, ea] at kp
      rw [B.n, eb] at kq
      refine ⟨p, q, ?_, kp, kq, hp, hq, hpq, hb⟩
      unfold mval mcs
      rw [B.n, B.up, B.sc, B.de, B.ga, B.b0, B.b1, B.b2, B.b3, B.lg]
def lrB (na nb : Nat) : Bool := decide (5000 < na) || decide (5000 < nb)
theorem large_any (m : Mt) (aa ab : Option Addr) (na ca nb cb : Nat) (w : World) :
    Calls Try.prog 4 #[.agg (mcs m (.slice aa na ca) (.slice ab nb cb))] w fun e w' => e = .returned (.bool (lrB na nb)) ∧ Below w.heap.size w w' := by
  obtain ⟨up, sc, de, ga, b0, b1, b2, b3, lg, ad, be⟩ := m
  have HB := hide ((Below.refl w.heap.size w).alloc (Nat.le_refl _) (.cells (mcs ⟨up, sc, de, ga, b0, b1, b2, b3, lg, ad, be⟩ (.slice aa na ca) (.slice ab nb cb)) 25))
  simp only [mcs] at HB ⊢
  have E := hide (show lrB na nb = (decide (5000 < na) || decide (5000 < nb)) from rfl)
  by_cases h1 : 5000 < na
  · have h1' : (5000 : Int) < (na : Int) := by omega
    have e : lrB na nb = true := by rw [E.out, show decide (5000 < na) = true by simp; omega]; rfl
    rw [e]
    clear h1 e E
    go_enter Try.func4, Try.ntmps4
    go_wp2_with fail
    go_ret
    exact ⟨rfl, HB.out⟩
  · have h1' : ¬ (5000 : Int) < (na : Int) := by omega
    by_cases h2 : 5000 < nb
    · have h2' : (5000 : Int) < (nb : Int) := by omega
      have e : lrB na nb = true := by rw [E.out, show decide (5000 < nb) = true by simp; omega, Bool.or_true]
      rw [e]
      clear h1 h2 e E
      go_enter Try.func4, Try.ntmps4
      go_wp2_with fail
      go_ret
      exact ⟨rfl, HB.out⟩
    · have h2' : ¬ (5000 : Int) < (nb : Int) := by omega
      have e : lrB na nb = false := by rw [E.out, show decide (5000 < na) = false by simp; omega, show decide (5000 < nb) = false by simp; omega]; rfl
      rw [e]
      clear h1 h2 e E
      go_enter Try.func4, Try.ntmps4
      go_wp2_with fail
      go_ret
      exact ⟨rfl, HB.out⟩
def smallM : Mt := ⟨1000, 0, 0, 0, 0, 0, 0, 0, false, [500, 20], [0, -1]⟩
theorem small_any (w : World) : Calls Try.prog 10 #[] w fun e w' => ∃ p q, e = .returned (.agg (mcs smallM (.slice (some ⟨p, 0, none⟩) 2 2) (.slice (some ⟨q, 0, none⟩) 2 2))) ∧ Lst w' (some ⟨p, 0, none⟩) [500, 20] ∧ Lst w' (some ⟨q, 0, none⟩) [0, -1] ∧ Below w.heap.size w w' := by
  go_enter Try.func10, Try.ntmps10
  go_wp2_with fail
  have l1 := lst_new (w.alloc (.cells #[.int .i64 1000, .int .i64 0, .int .i64 0, .int .i64 0, .int .i64 0, .int .i64 0, .int .i64 0, .int .i64 0, .bool false, .slice (some ⟨w.heap.size + 1, 0, none⟩) 2 2, .slice (some ⟨w.heap.size + 1 + 1, 0, none⟩) 2 2] 25)) [500, 20] (w.heap.size + 1) (by simp)
  have l2 := lst_new ((w.alloc (.cells #[.int .i64 1000, .int .i64 0, .int .i64 0, .int .i64 0, .int .i64 0, .int .i64 0, .int .i64 0, .int .i64 0, .bool false, .slice (some ⟨w.heap.size + 1, 0, none⟩) 2 2, .slice (some ⟨w.heap.size + 1 + 1, 0, none⟩) 2 2] 25)).alloc (.cells ([500, 20].map (Value.int .i64)).toArray 3)) [0, -1] (w.heap.size + 1 + 1) (by simp)
  have l1' := l1.below ((Below.refl _ _).alloc (Nat.le_refl _) (.cells ([0, -1].map (Value.int .i64)).toArray 3))
  refine bodyPost_ret (v := .agg (mcs smallM (.slice (some ⟨w.heap.size + 1, 0, none⟩) 2 2) (.slice (some ⟨w.heap.size + 1 + 1, 0, none⟩) 2 2))) (by simp [results, Try.results10, go_sem, mcs, smallM]) rfl ⟨_, _, rfl, l1', l2, ?_⟩
  exact (((Below.refl _ _).alloc (Nat.le_refl _) _).alloc (by simp) _).alloc (by simp; omega) _
theorem small_good : goodB smallM = true := by decide
theorem small_wd : wdI 1000 [500, 20] 0 655360 = 327680 ∧ wdB 1000 [500, 20] 0 655360 = true := by decide +kernel
set_option maxRecDepth 8000 in
set_option maxHeartbeats 2000000 in
theorem wakes9_any (w : World) : Calls Try.prog 5 #[] w fun e w' => e = .returned (.bool true) ∧ Below w.heap.size w w' := by
  have CS := hide small_any
  have CW := hide (fun (p q : Nat) (w : World) (h : Lst w (some ⟨p, 0, none⟩) [500, 20]) => wd_any smallM (some ⟨p, 0, none⟩) (some ⟨q, 0, none⟩) 2 2 2 2 0 655360 w (by show i64 1000; unfold i64; omega) (fun x hx => by simp [smallM] at hx; rcases hx with rfl | rfl <;> (unfold i64; omega)) (by unfold i64; omega) rfl (by omega) h)
  have CB := hide (fun (p q : Nat) (w : World) (h : Lst w (some ⟨p, 0, none⟩) [500, 20]) (h2 : Lst w (some ⟨q, 0, none⟩) [0, -1]) => bld_any smallM (some ⟨p, 0, none⟩) (some ⟨q, 0, none⟩) 2 2 2 w rfl rfl h h2 small_good)
  have CR := hide (fun (g : Nat) (w : World) (h : Blk w g (tabC smallM 2) 34) => rdb_any smallM g 2 w small_good rfl h)
  simp only [show smallM.up = 1000 from rfl, show smallM.ad = [500, 20] from rfl, small_wd.1, small_wd.2] at CW
  simp only [mcs, smallM] at CS CW CB CR
  generalize tabC _ 2 = TC at CB CR
  go_enter Try.func5, Try.ntmps5
  go_wp2_with fail
  refine (CS.out _).mono ?_
  rintro e w1 ⟨p, q, rfl, hl1, hl2, hb1⟩
  have C2 := hide (CW.out p q w1 hl1)
  have HB1 := hide hb1
  clear hl1 hl2 hb1
  go_wp2_with fail
  refine C2.out.mono ?_
  rintro e w2 ⟨rfl, hb2⟩
  have HB2 := hide (below_t5 HB1.out hb2)
  clear hb2 C2 HB1
  go_wp2_with fail
  refine (CS.out _).mono ?_
  rintro e w3 ⟨p1, q1, rfl, hl1, hl2, hb3⟩
  have C3 := hide (CB.out p1 q1 w3 hl1 hl2)
  have HB3 := hide (below_t5 HB2.out hb3)
  clear hl1 hl2 hb3 HB2
  go_wp2_with fail
  refine C3.out.mono ?_
  rintro e w4 ⟨g, rfl, hk, _, hb4⟩
  have C4 := hide (CR.out g w4 hk)
  have HB4 := hide (below_t5 HB3.out hb4)
  clear hk hb4 C3 HB3
  go_wp2_with fail
  refine C4.out.mono ?_
  rintro e w5 ⟨p2, q2, rfl, _, _, _, _, _, hb5⟩
  have HB5 := hide (below_t5 HB4.out hb5)
  clear hb5 C4 HB4
  go_wp2_with fail
  go_ret
  exact ⟨rfl, HB5.out.alloc HB5.out.size _⟩
end Go.Proofs.Ytkdnoemakclmdaa
