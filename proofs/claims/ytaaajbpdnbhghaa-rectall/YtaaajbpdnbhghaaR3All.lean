/-
  What rect.All answers.
-/
import Derived.Test.YtaaajbpdnbhghaaR3Acc
import Derived.Test.YtaaajbpdnbhghaaR3Join
import Derived.Test.YtaaajbpdnbhghaaR3OBox
import Derived.Test.YtaaajbpdnbhghaaLst
namespace Go.Proofs.Ytaaajbpdnbhghaa
open Go.RowKit

/- rectangle i's four cells -/
theorem cells4 {w : World} {b off n : Nat} {zs : List Int} (hl : zs.length = n * 4) (hcell : ∀ i, i < zs.length → w.cell? ⟨b, off + i, none⟩ = some (.int .i64 (zs.getD i 0))) (i : Nat) (hi : i < n) :
    w.cell? ⟨b, off + i * 4, none⟩ = some (.int .i64 (sd zs i 0)) ∧ w.cell? ⟨b, off + i * 4 + 1, none⟩ = some (.int .i64 (sd zs i 1)) ∧ w.cell? ⟨b, off + i * 4 + 2, none⟩ = some (.int .i64 (sd zs i 2)) ∧ w.cell? ⟨b, off + i * 4 + 3, none⟩ = some (.int .i64 (sd zs i 3)) :=
  ⟨hcell (i * 4) (by omega), hcell (i * 4 + 1) (by omega), hcell (i * 4 + 2) (by omega), hcell (i * 4 + 3) (by omega)⟩

set_option maxHeartbeats 1000000 in
theorem all_some (b off n cap : Nat) (zs : List Int) (w : World) (hl : zs.length = n * 4) (h0 : 0 < n) (h1 : n ≤ 200) (hb : b < w.heap.size)
    (hcell : ∀ i, i < zs.length → w.cell? ⟨b, off + i, none⟩ = some (.int .i64 (zs.getD i 0))) :
    Calls Try.prog 24 #[.slice (some ⟨b, off, none⟩) n cap] w fun e w' => e = .returned (.tuple #[.agg #[.int .i64 (tl (mayAll zs n) (ac0 zs (n - 1))), .int .i64 (tl (mayAll zs n) (ac1 zs (n - 1))), .int .i64 (tl (mayAll zs n) (ac2 zs (n - 1))), .int .i64 (tl (mayAll zs n) (ac3 zs (n - 1)))], .bool (mayAll zs n)]) ∧ Below w.heap.size w w' := by
  obtain ⟨z0, z1, z2, z3⟩ := cells4 hl hcell 0 h0
  simp only [Nat.zero_mul, Nat.add_zero] at z0 z1 z2 z3
  have HC := hide (cells4 hl hcell)
  clear hcell hl
  have t0 : ((n : Int) == 0) = false := by simp; omega
  have t1 : (0 : Int) < (n : Int) := by omega
  have t2 : (n : Int) ≤ 200 := by omega
  generalize hS : (fun e w' => e = Ending.returned (.tuple #[.agg #[.int .i64 (tl (mayAll zs n) (ac0 zs (n - 1))), .int .i64 (tl (mayAll zs n) (ac1 zs (n - 1))), .int .i64 (tl (mayAll zs n) (ac2 zs (n - 1))), .int .i64 (tl (mayAll zs n) (ac3 zs (n - 1)))], .bool (mayAll zs n)]) ∧ Below w.heap.size w w') = Q
  have HS := hide hS
  clear hS
  have AS := hide (acc_start zs)
  generalize sd zs 0 0 = r0 at *
  generalize sd zs 0 1 = r1 at *
  generalize sd zs 0 2 = r2 at *
  generalize sd zs 0 3 = r3 at *
  go_enter Try.func24, Try.ntmps24
  go_wp2_with fail
  go_loopw [18] (fun vi wr => ∃ (k : Nat) (p0 p1 p2 p3 : Int), vi = .int .i64 k ∧ Hid (k ≤ n ∧ mayAll zs k = true ∧ AccIs zs k p0 p1 p2 p3 ∧ Below w.heap.size w wr ∧ OBox wr w.heap.size 0 0 0 0 ∧ OBox wr (w.heap.size + 1) p0 p1 p2 p3)) (fun vi _ => n - (intOf vi).toNat)
  case atStart =>
    refine ⟨0, r0, r1, r2, r3, rfl, hide ⟨by omega, rfl, AS.out, ((Below.refl _ _).alloc (Nat.le_refl _) _).alloc (by simp) _, (obox_at rfl _ _ _ _ _).alloc _, obox_at (by simp) _ _ _ _ _⟩⟩
  case round =>
    obtain ⟨k, p0, p1, p2, p3, rfl, HR⟩ := hrel
    obtain ⟨hk, hma, hac, hbel, hO, hA⟩ := HR.out
    clear HR z0 z1 z2 z3 AS
    have HO := hide hO
    have HA := hide hA
    have HB := hide hbel
    by_cases hlt : k < n
    · obtain ⟨⟨zA, a0, a1, a2, a3⟩, fA⟩ := hA
      have hlt' : (k : Int) < (n : Int) := by omega
      have hk0 : (0 : Int) ≤ (k : Int) := by omega
      obtain ⟨c0, c1, c2, c3⟩ := HC.out k hlt
      rw [← hbel.cell (p := ⟨b, _, none⟩) hb] at c0 c1 c2 c3
      have zb : b < wr.heap.size := Nat.lt_of_lt_of_le hb hbel.size
      have C := fun w => join_any p0 p1 p2 p3 (sd zs k 0) (sd zs k 1) (sd zs k 2) (sd zs k 3) w
      rw [acc_joins hac hma] at C
      have ST := acc_step hac
      cases hm : mayAt zs k
      · rw [hm] at C
        simp only [tl_f rfl] at C
        have HF := hide (mayAll_f hlt hm)
        have C := hide C
        clear hac hma hm ST hbel hk hO
        generalize sd zs k 0 = s0 at *
        generalize sd zs k 1 = s1 at *
        generalize sd zs k 2 = s2 at *
        generalize sd zs k 3 = s3 at *
        go_wp2_with fail
        refine (C.out _).mono ?_; rintro e x ⟨rfl, hbx⟩
        obtain ⟨⟨zO, o0, o1, o2, o3⟩, fO⟩ := (HO.out.alloc _).below hbx
        have HX := hide (below_tr HB.out (below_in1 hbx))
        clear hbx zA a0 a1 a2 a3 fA c0 c1 c2 c3 zb
        go_wp2_with fail
        refine bodyPost_ret (v := .tuple #[.agg #[.int .i64 0, .int .i64 0, .int .i64 0, .int .i64 0], .bool false]) (by simp [results, Try.results24, go_sem, o0, o1, o2, o3, zO]) rfl ?_
        rw [← HS.out, HF.out]
        simp only [tl_f rfl]
        exact ⟨trivial, (below_st4 HX.out (Nat.le_refl _) _ _ _ _).alloc (below_st4 HX.out (Nat.le_refl _) _ _ _ _).size _⟩
      · rw [hm] at C
        simp only [tl_t rfl] at C
        have HM := hide (show mayAll zs (k + 1) = true by simp only [mayAll, hma, hm, Bool.and_true])
        generalize sd zs k 0 = s0 at *
        generalize sd zs k 1 = s1 at *
        generalize sd zs k 2 = s2 at *
        generalize sd zs k 3 = s3 at *
        generalize min p0 s0 = v0 at C ST
        generalize min p1 s1 = v1 at C ST
        generalize max p2 s2 = v2 at C ST
        generalize max p3 s3 = v3 at C ST
        have C := hide C
        have ST := hide ST
        clear hac hma hm hbel hk hO
        go_wp2_with fail
        refine (C.out _).mono ?_; rintro e x ⟨rfl, hbx⟩
        have HO2 := hide (((HO.out.alloc _).below hbx).alloc (.cells #[.int .i64 v0, .int .i64 v1, .int .i64 v2, .int .i64 v3] 23))
        have HA2 := hide (((HA.out.alloc _).below hbx).alloc (.cells #[.int .i64 v0, .int .i64 v1, .int .i64 v2, .int .i64 v3] 23))
        have HX := hide (below_tr HB.out (below_in1 hbx))
        clear hbx zA a0 a1 a2 a3 fA c0 c1 c2 c3 zb
        obtain ⟨⟨zA, a0, a1, a2, a3⟩, fA⟩ := HA2.out
        go_wp2_with fail
        go_roundw
        case rel => exact ⟨k + 1, v0, v1, v2, v3, by go_num, hide ⟨by omega, HM.out, ST.out, below_st4 (below_tr HX.out ((Below.refl _ _).alloc (Nat.le_refl _) _)) (by omega) _ _ _ _, HO2.out.st4 (by omega) _ _ _ _, HA2.out.put4 _ _ _ _⟩⟩
        case measure => simp [intOf]; omega
    · have hlt' : ¬ (k : Int) < (n : Int) := by omega
      obtain rfl : k = n := by omega
      obtain ⟨⟨zA, a0, a1, a2, a3⟩, fA⟩ := hA
      obtain ⟨⟨zO, o0, o1, o2, o3⟩, fO⟩ := hO
      have HM := hide hma
      have AC := hide hac
      clear hac hma hbel hk
      go_wp2_with fail
      refine bodyPost_ret (v := .tuple #[.agg #[.int .i64 p0, .int .i64 p1, .int .i64 p2, .int .i64 p3], .bool true]) (by simp [results, Try.results24, go_sem, o0, o1, o2, o3]) rfl ?_
      rw [← HS.out, HM.out]
      simp only [tl_t rfl]
      exact ⟨by rw [AC.out.e0, AC.out.e1, AC.out.e2, AC.out.e3], below_st4 HB.out (Nat.le_refl _) _ _ _ _⟩
end Go.Proofs.Ytaaajbpdnbhghaa
