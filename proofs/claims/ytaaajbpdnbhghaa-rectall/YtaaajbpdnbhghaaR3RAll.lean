/-
  What the reference's All answers.
-/
import Derived.Test.YtaaajbpdnbhghaaR3All
import Derived.Test.YtaaajbpdnbhghaaR3RJoin
import Derived.Deep.RegionWith
namespace Go.Proofs.Ytaaajbpdnbhghaa
open Go.RowKit

/- the rectangle so far, or zeros where one may not be -/
structure TlIs (zs : List Int) (k : Nat) (q : Bool) (u0 u1 u2 u3 : Int) : Prop where
  isq : q = mayAll zs k
  e0 : u0 = tl q (ac0 zs (k - 1))
  e1 : u1 = tl q (ac1 zs (k - 1))
  e2 : u2 = tl q (ac2 zs (k - 1))
  e3 : u3 = tl q (ac3 zs (k - 1))
theorem tl_start (zs : List Int) : TlIs zs 1 (mayAt zs 0) (tl (mayAt zs 0) (sd zs 0 0)) (tl (mayAt zs 0) (sd zs 0 1)) (tl (mayAt zs 0) (sd zs 0 2)) (tl (mayAt zs 0) (sd zs 0 3)) :=
  ⟨by simp [mayAll], rfl, rfl, rfl, rfl⟩
theorem TlIs.acc {zs : List Int} {k : Nat} {u0 u1 u2 u3 : Int} (h : TlIs zs k true u0 u1 u2 u3) : mayAll zs k = true ∧ AccIs zs k u0 u1 u2 u3 := by
  obtain ⟨h0, h1, h2, h3, h4⟩ := h
  simp only [tl_t rfl] at h1 h2 h3 h4
  exact ⟨h0.symm, h1, h2, h3, h4⟩
theorem tl_step {zs : List Int} {k : Nat} {u0 u1 u2 u3 : Int} (h : TlIs zs k true u0 u1 u2 u3) : TlIs zs (k + 1) (mayAt zs k) (tl (mayAt zs k) (min u0 (sd zs k 0))) (tl (mayAt zs k) (min u1 (sd zs k 1))) (tl (mayAt zs k) (max u2 (sd zs k 2))) (tl (mayAt zs k) (max u3 (sd zs k 3))) := by
  obtain ⟨h0, h1⟩ := h.acc
  obtain ⟨e0, e1, e2, e3⟩ := acc_step h1
  rw [e0, e1, e2, e3]
  exact ⟨by simp [mayAll, h0], rfl, rfl, rfl, rfl⟩
theorem TlIs.no {zs : List Int} {k n : Nat} {u0 u1 u2 u3 : Int} (h : TlIs zs k false u0 u1 u2 u3) (hk : k ≤ n) : mayAll zs n = false ∧ u0 = 0 ∧ u1 = 0 ∧ u2 = 0 ∧ u3 = 0 := by
  obtain ⟨h0, h1, h2, h3, h4⟩ := h
  simp only [tl_f rfl] at h1 h2 h3 h4
  refine ⟨?_, h1, h2, h3, h4⟩
  cases hn : mayAll zs n
  · rfl
  · rw [mayAll_lt hn hk] at h0; cases h0

set_option maxHeartbeats 2000000 in
theorem rall_some (b off n cap : Nat) (zs : List Int) (w : World) (hl : zs.length = n * 4) (h0 : 0 < n) (h1 : n ≤ 200) (hb : b < w.heap.size)
    (hcell : ∀ i, i < zs.length → w.cell? ⟨b, off + i, none⟩ = some (.int .i64 (zs.getD i 0))) :
    Calls Try.prog 25 #[.slice (some ⟨b, off, none⟩) n cap] w fun e w' => e = .returned (.tuple #[.agg #[.int .i64 (tl (mayAll zs n) (ac0 zs (n - 1))), .int .i64 (tl (mayAll zs n) (ac1 zs (n - 1))), .int .i64 (tl (mayAll zs n) (ac2 zs (n - 1))), .int .i64 (tl (mayAll zs n) (ac3 zs (n - 1)))], .bool (mayAll zs n)]) ∧ Below w.heap.size w w' := by
  obtain ⟨z0, z1, z2, z3⟩ := cells4 hl hcell 0 h0
  simp only [Nat.zero_mul, Nat.add_zero] at z0 z1 z2 z3
  have HC := hide (cells4 hl hcell)
  clear hcell hl
  have t0 : ((n : Int) == 0) = false := by simp; omega
  have t1 : (0 : Int) < (n : Int) := by omega
  have t2 : (n : Int) ≤ 200 := by omega
  generalize hS : (fun e w' => e = Ending.returned (.tuple #[.agg #[.int .i64 (tl (mayAll zs n) (ac0 zs (n - 1))), .int .i64 (tl (mayAll zs n) (ac1 zs (n - 1))), .int .i64 (tl (mayAll zs n) (ac2 zs (n - 1))), .int .i64 (tl (mayAll zs n) (ac3 zs (n - 1)))], .bool (mayAll zs n)]) ∧ Below w.heap.size w w') = Q
  have HS := hide hS
  clear hS
  have TS := tl_start zs
  have C := fun w => rifMay_any (sd zs 0 0) (sd zs 0 1) (sd zs 0 2) (sd zs 0 3) w
  rw [show mayB (sd zs 0 0) (sd zs 0 1) (sd zs 0 2) (sd zs 0 3) = mayAt zs 0 from rfl] at C
  generalize tl (mayAt zs 0) (sd zs 0 0) = p0 at C TS
  generalize tl (mayAt zs 0) (sd zs 0 1) = p1 at C TS
  generalize tl (mayAt zs 0) (sd zs 0 2) = p2 at C TS
  generalize tl (mayAt zs 0) (sd zs 0 3) = p3 at C TS
  generalize mayAt zs 0 = q at C TS
  generalize sd zs 0 0 = r0 at *
  generalize sd zs 0 1 = r1 at *
  generalize sd zs 0 2 = r2 at *
  generalize sd zs 0 3 = r3 at *
  have C := hide C
  have TS := hide TS
  go_enter Try.func25, Try.ntmps25
  go_wp2_with fail
  refine (C.out _).mono ?_; rintro e x ⟨rfl, hbx⟩
  have HO := hide (((obox_at (n := w.heap.size) rfl 23 0 0 0 0).below hbx).alloc (.cells #[.int .i64 p0, .int .i64 p1, .int .i64 p2, .int .i64 p3] 23))
  have HA := hide (obox_at (x := x) rfl 23 p0 p1 p2 p3)
  have HX := hide ((below_in1 hbx).alloc (below_in1 hbx).size (.cells #[.int .i64 p0, .int .i64 p1, .int .i64 p2, .int .i64 p3] 23))
  have hwx : w.heap.size < x.heap.size := by have := hbx.size; simp at this; omega
  clear hbx C z0 z1 z2 z3
  go_wp2_with fail
  go_loopw [5, 6] (fun vq vi wr => ∃ (k : Nat) (q : Bool) (p0 p1 p2 p3 : Int), vq = .bool q ∧ vi = .int .i64 k ∧ Hid (1 ≤ k ∧ k ≤ n ∧ TlIs zs k q p0 p1 p2 p3 ∧ Below w.heap.size w wr ∧ OBox wr w.heap.size 0 0 0 0 ∧ OBox wr x.heap.size p0 p1 p2 p3)) (fun _ vi _ => n - (intOf vi).toNat)
  case atStart => exact ⟨1, q, p0, p1, p2, p3, rfl, rfl, hide ⟨by omega, by omega, TS.out, HX.out, HO.out, HA.out⟩⟩
  case round =>
    clear HO HA HX TS
    obtain ⟨k, q, p0, p1, p2, p3, rfl, rfl, HR⟩ := hrel
    obtain ⟨hk1, hk, hT, hbel, hO, hA⟩ := HR.out
    clear HR
    have HT := hide hT
    have HO := hide hO
    have HA := hide hA
    have HB := hide hbel
    obtain ⟨⟨zA, a0, a1, a2, a3⟩, fA⟩ := hA
    by_cases hlt : k < n
    · have hlt' : (k : Int) < (n : Int) := by omega
      cases q
      · clear hT
        obtain ⟨⟨zO, o0, o1, o2, o3⟩, fO⟩ := hO
        clear hbel
        go_wp2_with fail
        refine bodyPost_ret (v := .tuple #[.agg #[.int .i64 p0, .int .i64 p1, .int .i64 p2, .int .i64 p3], .bool false]) (by simp [results, Try.results25, go_sem, o0, o1, o2, o3]) rfl ?_
        obtain ⟨e, e0, e1, e2, e3⟩ := HT.out.no hk
        rw [← HS.out, e, e0, e1, e2, e3]
        simp only [tl_f rfl]
        exact ⟨trivial, below_st4 HB.out (Nat.le_refl _) _ _ _ _⟩
      · have hk0 : (0 : Int) ≤ (k : Int) := by omega
        obtain ⟨c0, c1, c2, c3⟩ := HC.out k hlt
        rw [← hbel.cell (p := ⟨b, _, none⟩) hb] at c0 c1 c2 c3
        have zb : b < wr.heap.size := Nat.lt_of_lt_of_le hb hbel.size
        have C := fun w => rjoin_any p0 p1 p2 p3 (sd zs k 0) (sd zs k 1) (sd zs k 2) (sd zs k 3) w
        rw [acc_joins hT.acc.2 hT.acc.1] at C
        have ST := tl_step hT
        clear hT hO hbel
        generalize tl (mayAt zs k) (min p0 (sd zs k 0)) = v0 at C ST
        generalize tl (mayAt zs k) (min p1 (sd zs k 1)) = v1 at C ST
        generalize tl (mayAt zs k) (max p2 (sd zs k 2)) = v2 at C ST
        generalize tl (mayAt zs k) (max p3 (sd zs k 3)) = v3 at C ST
        generalize mayAt zs k = q' at C ST
        generalize sd zs k 0 = s0 at *
        generalize sd zs k 1 = s1 at *
        generalize sd zs k 2 = s2 at *
        generalize sd zs k 3 = s3 at *
        have C := hide C
        have ST := hide ST
        go_wp2_with fail
        rename_i k0
        have HK := hide k0
        clear k0
        go_region_with ((go_at_call 12; refine (C.out _).mono ?_; rintro e y ⟨rfl, hby⟩; have HY := hide (below_d (Below.refl wr.heap.size wr) hby rfl rfl rfl rfl); obtain ⟨⟨zY, y0, y1, y2, y3⟩, fY⟩ := HA.out.below HY.out; clear hby))
        all_goals
          refine HK.out _ _ ?_
          go_wp2_with fail
          go_roundw
          case rel => exact ⟨k + 1, q', v0, v1, v2, v3, rfl, by go_num, hide ⟨by omega, by omega, ST.out, below_st4 (below_tr HB.out HY.out) (by omega) _ _ _ _, (HO.out.below HY.out).st4 (by omega) _ _ _ _, (HA.out.below HY.out).put4 _ _ _ _⟩⟩
          case measure => simp [intOf]; omega
    · have hlt' : ¬ (k : Int) < (n : Int) := by omega
      obtain rfl : k = n := by omega
      clear hT
      obtain ⟨⟨zO, o0, o1, o2, o3⟩, fO⟩ := hO
      clear hbel
      go_wp2_with fail
      refine bodyPost_ret (v := .tuple #[.agg #[.int .i64 p0, .int .i64 p1, .int .i64 p2, .int .i64 p3], .bool q]) (by simp [results, Try.results25, go_sem, o0, o1, o2, o3]) rfl ?_
      rw [← HS.out, HT.out.e0, HT.out.e1, HT.out.e2, HT.out.e3, ← HT.out.isq]
      exact ⟨rfl, below_st4 HB.out (Nat.le_refl _) _ _ _ _⟩
end Go.Proofs.Ytaaajbpdnbhghaa
