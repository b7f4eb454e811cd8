/-
  Joined: K17Mi, K17Mj.
-/
import Derived.Test.YtpmdekhjodhdmaaDoorP23
namespace Go.Proofs.YtpmdekhjodhdmaaDoor.K17
open Go.RowKit Go.Proofs.YtpmdekhjodhdmaaDoor
open Go.Lib
set_option linter.unusedVariables false
set_option linter.unusedSimpArgs false
set_option maxRecDepth 100000
set_option maxHeartbeats 8000000 in
theorem rone_c (x tt : List UInt8) (ps : List At) (a : Int) (aa : Option Addr) (ac : Nat) (w : World) (hA : ALs w aa ps) (hbx : x.length ≤ 1048576) (hbn : ps.length ≤ 17592186044416) (hbp : ps.length ≤ 16 → ∀ p ∈ ps, p.1.length ≤ 65536 ∧ p.2.length ≤ 65536) :
    Calls Tryd.prog 30 #[tgv ⟨2, x, tt, ps, a⟩ aa ac] w (RoR w ⟨2, x, tt, ps, a⟩) := by
  have hR : okT ⟨2, x, tt, ps, a⟩ = (isNm x && decide (ps.length = 0) && decide (tt = [])) := rfl
  have hT : txT ⟨2, x, tt, ps, a⟩ = [60, 47] ++ x ++ [62] := rfl
  unfold RoR
  rw [hR, hT]
  dsimp only [tgv]
  have CN := fun w => rName_any x w hbx
  have ey := str_emp tt
  have hX := mk_l x
  obtain ⟨n, hn⟩ : ∃ n, ps.length = n := ⟨_, rfl⟩
  have hni : (n : Int) ≤ 17592186044416 := by omega
  rw [hn] at hbp hbn ⊢
  clear hR hT
  generalize (⟨x.toArray⟩ : ByteArray) = X at *
  generalize (⟨tt.toArray⟩ : ByteArray) = Y at *
  have hxz : (X.size : Int) ≤ 1048576 := by have := size_l X; rw [hX] at this; omega
  clear hbx
  have HB0 := hide ((Below.refl w.heap.size w).alloc (Nat.le_refl _) (.cells #[.int .i64 2, .string X, .string Y, .slice aa n ac, .int .i64 a] 45))
  have KT := hide (show ∀ u, Below (w.alloc (.cells #[.int .i64 2, .string X, .string Y, .slice aa n ac, .int .i64 a] 45)).heap.size (w.alloc (.cells #[.int .i64 2, .string X, .string Y, .slice aa n ac, .int .i64 a] 45)) u → u.cell? ⟨w.heap.size, 0, none⟩ = some (.int .i64 2) ∧ u.cell? ⟨w.heap.size, 1, none⟩ = some (.string X) ∧ u.cell? ⟨w.heap.size, 2, none⟩ = some (.string Y) ∧ u.cell? ⟨w.heap.size, 3, none⟩ = some (.slice aa n ac) ∧ u.cell? ⟨w.heap.size, 4, none⟩ = some (.int .i64 a) from fun u hu => cells5 ((Blk.new w #[.int .i64 2, .string X, .string Y, .slice aa n ac, .int .i64 a] 45).below hu))
  cases hN : isNm x
  · rw [hN] at CN
    have CN := hide CN
    rw [Bool.false_and, Bool.false_and]
    clear hbp hbn hN ey hA hn hX
    go_enter Tryd.func30, Tryd.ntmps30
    go_wp2_with (first
      | (go_at_call 50; refine (CN.out _).mono ?_; rintro e w1 ⟨rfl, hy⟩; subst w1))
    go_ret2
    exact ⟨HB0.out, _, rfl, by simp⟩
  · rw [hN] at CN
    have CN := hide CN
    rw [Bool.true_and]
    by_cases htt : tt = []
    · rw [decide_eq_true htt] at ey ⊢
      rw [Bool.and_true]
      by_cases h0 : n = 0
      · subst h0
        rw [decide_eq_true rfl]
        have HCT := hide (show (({ data := #[60, 47] } : ByteArray) ++ X ++ ({ data := #[62] } : ByteArray)).data.toList = [60, 47] ++ x ++ [62] by rw [cat17, cat17, hX])
        clear hbp hbn hN hA hn hX htt
        go_enter Tryd.func30, Tryd.ntmps30
        go_wp2_with (first
          | (go_at_call 50; refine (CN.out _).mono ?_; rintro e w1 ⟨rfl, hy⟩; subst w1))
        go_ret2
        exact ⟨HB0.out, _, rfl, fun _ => HCT.out⟩
      · rw [decide_eq_false h0]
        have h0' : (0 : Int) < (n : Int) := by omega
        by_cases h16 : n ≤ 16
        · have h16' : ¬ (16 : Int) < (n : Int) := by omega
          clear hbp hbn hN hA hn hX htt h0 h16
          go_enter Tryd.func30, Tryd.ntmps30
          go_wp2_with (first
            | (go_at_call 50; refine (CN.out _).mono ?_; rintro e w1 ⟨rfl, hy⟩; subst w1))
          go_ret2
          exact ⟨HB0.out, _, rfl, by simp⟩
        · have h16' : (16 : Int) < (n : Int) := by omega
          clear hbp hbn hN hA hn hX htt h0 h16
          go_enter Tryd.func30, Tryd.ntmps30
          go_wp2_with (first
            | (go_at_call 50; refine (CN.out _).mono ?_; rintro e w1 ⟨rfl, hy⟩; subst w1))
          go_ret2
          exact ⟨HB0.out, _, rfl, by simp⟩
    · rw [decide_eq_false htt] at ey ⊢
      rw [Bool.and_false]
      clear hbp hbn hN hA hn hX htt
      go_enter Tryd.func30, Tryd.ntmps30
      go_wp2_with (first
        | (go_at_call 50; refine (CN.out _).mono ?_; rintro e w1 ⟨rfl, hy⟩; subst w1))
      go_ret2
      exact ⟨HB0.out, _, rfl, by simp⟩
set_option maxHeartbeats 8000000 in
theorem rone_o (x tt : List UInt8) (ps : List At) (a : Int) (aa : Option Addr) (ac : Nat) (w : World) (hA : ALs w aa ps) (hbx : x.length ≤ 1048576) (hbn : ps.length ≤ 17592186044416) (hbp : ps.length ≤ 16 → ∀ p ∈ ps, p.1.length ≤ 65536 ∧ p.2.length ≤ 65536) :
    Calls Tryd.prog 30 #[tgv ⟨1, x, tt, ps, a⟩ aa ac] w (RoR w ⟨1, x, tt, ps, a⟩) := by
  have hR : okT ⟨1, x, tt, ps, a⟩ = (isNm x && okA ps && decide (tt = [])) := rfl
  have hT : txT ⟨1, x, tt, ps, a⟩ = [60] ++ x ++ ps.flatMap aT ++ [] ++ [62] := rfl
  unfold RoR
  rw [hR, hT]
  dsimp only [tgv]
  have CN := fun w => rName_any x w hbx
  have ey := str_emp tt
  have hX := mk_l x
  obtain ⟨n, hn⟩ : ∃ n, ps.length = n := ⟨_, rfl⟩
  have hni : (n : Int) ≤ 17592186044416 := by omega
  rw [hn] at hbp hbn ⊢
  clear hR hT
  generalize (⟨x.toArray⟩ : ByteArray) = X at *
  generalize (⟨tt.toArray⟩ : ByteArray) = Y at *
  have hxz : (X.size : Int) ≤ 1048576 := by have := size_l X; rw [hX] at this; omega
  clear hbx
  have HB0 := hide ((Below.refl w.heap.size w).alloc (Nat.le_refl _) (.cells #[.int .i64 1, .string X, .string Y, .slice aa n ac, .int .i64 a] 45))
  have KT := hide (show ∀ u, Below (w.alloc (.cells #[.int .i64 1, .string X, .string Y, .slice aa n ac, .int .i64 a] 45)).heap.size (w.alloc (.cells #[.int .i64 1, .string X, .string Y, .slice aa n ac, .int .i64 a] 45)) u → u.cell? ⟨w.heap.size, 0, none⟩ = some (.int .i64 1) ∧ u.cell? ⟨w.heap.size, 1, none⟩ = some (.string X) ∧ u.cell? ⟨w.heap.size, 2, none⟩ = some (.string Y) ∧ u.cell? ⟨w.heap.size, 3, none⟩ = some (.slice aa n ac) ∧ u.cell? ⟨w.heap.size, 4, none⟩ = some (.int .i64 a) from fun u hu => cells5 ((Blk.new w #[.int .i64 1, .string X, .string Y, .slice aa n ac, .int .i64 a] 45).below hu))
  cases hN : isNm x
  · rw [hN] at CN
    have CN := hide CN
    rw [Bool.false_and, Bool.false_and]
    clear hbp hbn hN ey hA hn hX
    go_enter Tryd.func30, Tryd.ntmps30
    go_wp2_with (first
      | (go_at_call 50; refine (CN.out _).mono ?_; rintro e w1 ⟨rfl, hy⟩; subst w1))
    go_ret2
    exact ⟨HB0.out, _, rfl, by simp⟩
  · rw [hN] at CN
    have CN := hide CN
    rw [Bool.true_and]
    by_cases htt : tt = []
    · rw [decide_eq_true htt] at ey ⊢
      rw [Bool.and_true]
      by_cases h16 : n ≤ 16
      · have h16' : ¬ (16 : Int) < (n : Int) := by omega
        obtain ⟨R, hR⟩ : ∃ R, okA ps = R := ⟨_, rfl⟩
        rw [hR]
        have HR : Hid (allN n (okA1 ps) = R) := hide (by rw [← hR]; unfold okA; rw [hn, decide_eq_true h16]; rfl)
        have HP := hide (hbp h16)
        have HA := hide hA
        have HN := hide hn
        have hn16 : (n : Int) ≤ 16 := by omega
        have HS0 := hide (show (({ data := #[60] } : ByteArray) ++ X).data.toList = [60] ++ x ++ (ps.take 0).flatMap aT by rw [cat17, hX]; simp)
        have HAS := hide (fun w' (h : Below (w.alloc (.cells #[.int .i64 1, .string X, .string Y, .slice aa n ac, .int .i64 a] 45)).heap.size (w.alloc (.cells #[.int .i64 1, .string X, .string Y, .slice aa n ac, .int .i64 a] 45)) w') => hA.below (HB0.out.trans (h.mono HB0.out.size)))
        have HBW := hide (fun w' (h : Below (w.alloc (.cells #[.int .i64 1, .string X, .string Y, .slice aa n ac, .int .i64 a] 45)).heap.size (w.alloc (.cells #[.int .i64 1, .string X, .string Y, .slice aa n ac, .int .i64 a] 45)) w') => HB0.out.trans (h.mono HB0.out.size))
        have HXL := hide (show x.length ≤ 1048576 by have := size_l X; rw [hX] at this; omega)
        have HRF := hide (Below.refl (w.alloc (.cells #[.int .i64 1, .string X, .string Y, .slice aa n ac, .int .i64 a] 45)).heap.size (w.alloc (.cells #[.int .i64 1, .string X, .string Y, .slice aa n ac, .int .i64 a] 45)))
        clear hbp hbn hN hA hn hX htt hR h16
        go_enter Tryd.func30, Tryd.ntmps30
        go_wp2_with (first
          | (go_at_call 50; refine (CN.out _).mono ?_; rintro e w1 ⟨rfl, hy⟩; subst w1))
        generalize (w.alloc (.cells #[.int .i64 1, .string X, .string Y, .slice aa n ac, .int .i64 a] 45)) = W0 at HAS HBW HRF KT ⊢
        go_loopw [6, 7] (fun vs vi wr => ∃ (j : Nat) (Sb : ByteArray), vi = .int .i64 j ∧ vs = .string Sb ∧ Hid (j ≤ n ∧ Sb.data.toList = [60] ++ x ++ (ps.take j).flatMap aT ∧ allN j (okA1 ps) = true ∧ Below W0.heap.size W0 wr)) (fun _ vi _ => n - (RowKit.intOf vi).toNat)
        case atStart => exact ⟨0, _, rfl, rfl, hide ⟨by omega, HS0.out, rfl, HRF.out⟩⟩
        case round =>
          clear HS0 HRF HB0
          obtain ⟨j, Sb, rfl, rfl, HJ⟩ := hrel
          obtain ⟨j1, j2, j3, j4⟩ := HJ.out
          clear HJ
          have hsb : (Sb.size : Int) ≤ 100000000 := by
            have h1 := ats_len (ps.take j)
            have h2 := szA_bd (ps.take j) 65536 (fun p hp => HP.out p (List.mem_of_mem_take hp))
            have h3 : (ps.take j).length ≤ 16 := by rw [List.length_take]; have := HN.out; omega
            have h4 := size_l Sb
            rw [j2] at h4
            simp only [List.length_append, List.length_cons, List.length_nil] at h4
            have := HXL.out
            omega
          obtain ⟨g0, g1, g2, g3, g4⟩ := KT.out wr j4
          have HJB := hide j4
          by_cases hj : j < n
          · have hj' : (j : Int) < (n : Int) := by omega
            rcases HAS.out wr j4 with h0 | ⟨b, off, rfl, hlt, hcell⟩
            · have := HN.out; rw [h0] at this; simp at this; omega
            obtain ⟨d0, d1⟩ := hcell j (by have := HN.out; omega)
            have hfl := flat_take aT ([], []) ps j (by have := HN.out; omega)
            have hmem : ps.getD j ([], []) ∈ ps := by rw [List.getD_eq_getElem?_getD, List.getElem?_eq_getElem (by have := HN.out; omega)]; exact List.getElem_mem _
            obtain ⟨hz1, hz2⟩ := HP.out _ hmem
            have hok : okA1 ps j = (isNm (ps.getD j ([], [])).1 && !nmd (ps.take j) (ps.getD j ([], [])).1 && pln (ps.getD j ([], [])).2) := rfl
            generalize ps.getD j ([], []) = q at *
            obtain ⟨q1, q2⟩ := q
            simp only at d0 d1 hz1 hz2 hok
            have CE := fun w => rescape_any ⟨q2.toArray⟩ w (by rw [size_m]; omega)
            rw [mk_l] at CE
            have CN2 := fun w => rName_any q1 w (by omega)
            have hpe := pln_esc q2
            have hpt := @pln_txt q2
            have hQ1 := mk_l q1
            obtain ⟨⟨Z, E⟩, hZE⟩ : ∃ R, escV q2 = R := ⟨_, rfl⟩
            rw [hZE] at CE hpe hpt
            simp only at CE hpe hpt
            have hZ := mk_l Z
            have hbq : ∀ x : List UInt8, ((⟨x.toArray⟩ : ByteArray).toList == (⟨q1.toArray⟩ : ByteArray).toList) = (x == q1) := fun x => str_beq x q1
            generalize (⟨q1.toArray⟩ : ByteArray) = Q1 at *
            generalize (⟨q2.toArray⟩ : ByteArray) = Q2 at *
            generalize (⟨Z.toArray⟩ : ByteArray) = ZZ at *
            have HQ := hide (show ∀ u, Below wr.heap.size wr u → u.cell? ⟨b, off + j * 2, none⟩ = some (.string Q1) from fun u hu => by rw [hu.cell (p := ⟨b, off + j * 2, none⟩) hlt]; exact d0)
            have CE := hide CE
            by_cases hE : E = 0
            · subst hE
              have hpt' := hpt (by rw [hpe]; rfl)
              rw [show pln q2 = true by rw [hpe]; rfl, Bool.and_true] at hok
              cases hN2 : isNm q1
              · rw [hN2] at CN2 hok
                have CN2 := hide CN2
                obtain rfl : R = false := by rw [← HR.out]; exact allN_no hj (by rw [hok]; rfl)
                clear hok hN2 hpe hpt hpt' hmem hfl j2 j3 j4 hz1 hz2 hZ hQ1 hcell HR hZE hbq
                go_wp2_with (first
                  | (go_at_call 18; refine (CE.out _).mono ?_; rintro e w1 ⟨rfl, h1⟩; have h2 := HJB.out.trans (h1.mono HJB.out.size); obtain ⟨e0, e1, e2, e3, e4⟩ := KT.out w1 h2; have H2 := hide h2; have d0 := HQ.out w1 h1; clear h1 h2)
                  | (go_at_call 50; refine (CN2.out _).mono ?_; rintro e w2 ⟨rfl, hy⟩; subst w2))
                go_ret2
                exact ⟨HBW.out _ H2.out, _, rfl, by simp⟩
              · rw [hN2] at CN2 hok
                have CN2 := hide CN2
                rw [Bool.true_and] at hok
                have HOK := hide hok
                have HBQ := hide hbq
                have HCT := hide (show (Sb ++ (({ data := #[32] } : ByteArray) ++ Q1 ++ ({ data := #[61, 34] } : ByteArray) ++ ZZ ++ ({ data := #[34] } : ByteArray))).data.toList = [60] ++ x ++ (ps.take (j + 1)).flatMap aT by
                  rw [cat17, cat17, cat17, cat17, cat17, hZ, hQ1, hpt', j2, hfl]; unfold aT; simp only [List.append_assoc])
                have HJ3 := hide j3
                have hqz : (Q1.size : Int) ≤ 65536 := by have := size_l Q1; rw [hQ1] at this; omega
                have hzz : (ZZ.size : Int) ≤ 400000 := by have := size_l ZZ; rw [hZ, hpt'] at this; have := esc_len q2; omega
                clear hok hN2 hpe hpt hpt' hmem hfl j2 j3 j4 hz1 hz2 hZ hQ1 hcell hZE hbq
                go_wp2_with (first
                  | (go_at_call 18; refine (CE.out _).mono ?_; rintro e w1 ⟨rfl, h1⟩; have h2 := HJB.out.trans (h1.mono HJB.out.size); obtain ⟨e0, e1, e2, e3, e4⟩ := KT.out w1 h2; have H2 := hide h2; have d0 := HQ.out w1 h1; clear h1 h2)
                  | (go_at_call 50; refine (CN2.out _).mono ?_; rintro e w2 ⟨rfl, hy⟩; subst w2))
                go_loopw [10] (fun vk wz => ∃ i : Nat, vk = .int .i64 i ∧ Hid (i ≤ j ∧ (ps.take i).any (fun p => p.1 == q1) = false ∧ Below w1.heap.size w1 wz)) (fun vk _ => j - (RowKit.intOf vk).toNat)
                case atStart => exact ⟨0, rfl, hide ⟨by omega, by simp, Below.refl _ _⟩⟩
                case round =>
                  obtain ⟨i, rfl, HI⟩ := hrel
                  obtain ⟨i1, i2, i3⟩ := HI.out
                  clear HI g0 g1 g2 g3 g4 e0 e1 e2 e3 e4
                  have i4 := H2.out.trans (i3.mono H2.out.size)
                  obtain ⟨g0, g1, g2, g3, g4⟩ := KT.out _ i4
                  by_cases hi : i < j
                  · have hi' : (i : Int) < (j : Int) := by omega
                    have hin : (i : Int) < (n : Int) := by omega
                    rcases HAS.out _ i4 with h0 | ⟨b', off', he, hlt', hcell⟩
                    · have := HN.out; rw [h0] at this; simp at this; omega
                    have eb : b = b' := by injection he with he; injection he
                    have eo : off = off' := by injection he with he; injection he
                    clear he
                    subst eb
                    subst eo
                    obtain ⟨c0, _⟩ := hcell i (by have := HN.out; omega)
                    obtain ⟨f0, _⟩ := hcell j (by have := HN.out; omega)
                    have htk : ps.take (i + 1) = ps.take i ++ [ps.getD i ([], [])] := by
                      rw [List.take_succ_eq_append_getElem (by have := HN.out; omega), List.getD_eq_getElem?_getD, List.getElem?_eq_getElem (by have := HN.out; omega)]; rfl
                    have hmem : ps.getD i ([], []) ∈ ps.take j := by
                      rw [List.getD_eq_getElem?_getD, List.getElem?_eq_getElem (by have := HN.out; omega)]
                      exact List.mem_take_iff_getElem.2 ⟨i, by have := HN.out; omega, rfl⟩
                    have d0' := HQ.out
                    clear f0
                    have f0 : wr.cell? ⟨b, off + j * 2, none⟩ = some (.string Q1) := by rw [i3.cell (p := ⟨b, off + j * 2, none⟩) (gcell_lt d0)]; exact d0
                    have hbq := HBQ.out (ps.getD i ([], [])).1
                    generalize ps.getD i ([], []) = pr at *
                    obtain ⟨r1, r2⟩ := pr
                    simp only at c0 hbq hmem htk
                    generalize (⟨r1.toArray⟩ : ByteArray) = R1 at c0 hbq
                    cases hq : r1 == q1
                    · rw [hq] at hbq
                      have K := hide (show (ps.take (i + 1)).any (fun p => p.1 == q1) = false by rw [htk, List.any_append, i2]; simp [hq])
                      have I3 := hide i3
                      clear i2 i3 i4 htk hmem hq hcell d0 d0'
                      go_wp2_with fail
                      go_quiet (fail)
                      go_wp2_with fail
                      go_roundw
                      case rel => exact ⟨i + 1, by go_num, hide ⟨by omega, K.out, I3.out.trans (below_drewN' _ _ |>.mono I3.out.size)⟩⟩
                      case measure => simp [RowKit.intOf]; omega
                    · rw [hq] at hbq
                      have hdup : nmd (ps.take j) q1 = true := by unfold nmd; rw [List.any_eq_true]; exact ⟨_, hmem, hq⟩
                      obtain rfl : R = false := by rw [← HR.out]; exact allN_no hj (by rw [HOK.out, hdup]; rfl)
                      have I4 := hide i4
                      clear i2 i3 i4 htk hmem hq hcell d0 d0' HR hdup
                      go_wp2_with fail
                      go_quiet (fail)
                      go_wp2_with fail
                      go_ret2
                      exact ⟨HBW.out _ (I4.out.trans (below_drewN' _ _ |>.mono I4.out.size)), _, rfl, by simp⟩
                  · have hi' : ¬ (i : Int) < (j : Int) := by omega
                    obtain rfl : i = j := by omega
                    have HST := hide (allN_step HJ3.out (by rw [HOK.out, show nmd (ps.take i) q1 = false from i2]; rfl))
                    have f0 : wr.cell? ⟨b, off + i * 2, none⟩ = some (.string Q1) := by rw [i3.cell (p := ⟨b, off + i * 2, none⟩) (gcell_lt d0)]; exact d0
                    have I4 := hide i4
                    clear i2 i3 i4 d0
                    go_wp2_with fail
                    go_roundw
                    case rel => exact ⟨i + 1, _, by go_num, rfl, hide ⟨by omega, HCT.out, HST.out, I4.out⟩⟩
                    case measure => simp [RowKit.intOf]; omega
            · have fE : (E == 0) = false := by rw [beq_eq_false_iff_ne]; exact hE
              rw [show pln q2 = false by rw [hpe]; exact decide_eq_false hE, Bool.and_false] at hok
              obtain rfl : R = false := by rw [← HR.out]; exact allN_no hj hok
              clear hok hpe hpt hmem hfl j2 j3 j4 hz1 hz2 hZ hQ1 hcell HR hZE hbq CN2
              go_wp2_with (first
                | (go_at_call 18; refine (CE.out _).mono ?_; rintro e w1 ⟨rfl, h1⟩; have h2 := HJB.out.trans (h1.mono HJB.out.size); obtain ⟨e0, e1, e2, e3, e4⟩ := KT.out w1 h2; have H2 := hide h2; have d0 := HQ.out w1 h1; clear h1 h2))
              go_ret2
              exact ⟨HBW.out _ H2.out, _, rfl, by simp⟩
          · have hj' : ¬ (j : Int) < (n : Int) := by omega
            obtain rfl : j = n := by omega
            rw [List.take_of_length_le (by have := HN.out; omega)] at j2
            have hr := HR.out
            rw [j3] at hr
            subst hr
            have HCT := hide (show (Sb ++ ({ data := #[62] } : ByteArray)).data.toList = [60] ++ x ++ ps.flatMap aT ++ [] ++ [62] by rw [cat17, j2]; simp)
            clear j2 j3 j4 HR
            go_wp2_with fail
            go_ret2
            exact ⟨HBW.out _ HJB.out, _, rfl, by have := HCT.out; simpa using this⟩
      · have h16' : (16 : Int) < (n : Int) := by omega
        rw [show okA ps = false by unfold okA; rw [hn, decide_eq_false h16]; rfl]
        clear hbp hbn hN hA hn hX htt h16
        go_enter Tryd.func30, Tryd.ntmps30
        go_wp2_with (first
          | (go_at_call 50; refine (CN.out _).mono ?_; rintro e w1 ⟨rfl, hy⟩; subst w1))
        go_ret2
        exact ⟨HB0.out, _, rfl, by simp⟩
    · rw [decide_eq_false htt] at ey ⊢
      rw [Bool.and_false]
      clear hbp hbn hN hA hn hX htt
      go_enter Tryd.func30, Tryd.ntmps30
      go_wp2_with (first
        | (go_at_call 50; refine (CN.out _).mono ?_; rintro e w1 ⟨rfl, hy⟩; subst w1))
      go_ret2
      exact ⟨HB0.out, _, rfl, by simp⟩
set_option maxHeartbeats 8000000 in
theorem rone_e (x tt : List UInt8) (ps : List At) (a : Int) (aa : Option Addr) (ac : Nat) (w : World) (hA : ALs w aa ps) (hbx : x.length ≤ 1048576) (hbn : ps.length ≤ 17592186044416) (hbp : ps.length ≤ 16 → ∀ p ∈ ps, p.1.length ≤ 65536 ∧ p.2.length ≤ 65536) :
    Calls Tryd.prog 30 #[tgv ⟨3, x, tt, ps, a⟩ aa ac] w (RoR w ⟨3, x, tt, ps, a⟩) := by
  have hR : okT ⟨3, x, tt, ps, a⟩ = (isNm x && okA ps && decide (tt = [])) := rfl
  have hT : txT ⟨3, x, tt, ps, a⟩ = [60] ++ x ++ ps.flatMap aT ++ [47] ++ [62] := rfl
  unfold RoR
  rw [hR, hT]
  dsimp only [tgv]
  have CN := fun w => rName_any x w hbx
  have ey := str_emp tt
  have hX := mk_l x
  obtain ⟨n, hn⟩ : ∃ n, ps.length = n := ⟨_, rfl⟩
  have hni : (n : Int) ≤ 17592186044416 := by omega
  rw [hn] at hbp hbn ⊢
  clear hR hT
  generalize (⟨x.toArray⟩ : ByteArray) = X at *
  generalize (⟨tt.toArray⟩ : ByteArray) = Y at *
  have hxz : (X.size : Int) ≤ 1048576 := by have := size_l X; rw [hX] at this; omega
  clear hbx
  have HB0 := hide ((Below.refl w.heap.size w).alloc (Nat.le_refl _) (.cells #[.int .i64 3, .string X, .string Y, .slice aa n ac, .int .i64 a] 45))
  have KT := hide (show ∀ u, Below (w.alloc (.cells #[.int .i64 3, .string X, .string Y, .slice aa n ac, .int .i64 a] 45)).heap.size (w.alloc (.cells #[.int .i64 3, .string X, .string Y, .slice aa n ac, .int .i64 a] 45)) u → u.cell? ⟨w.heap.size, 0, none⟩ = some (.int .i64 3) ∧ u.cell? ⟨w.heap.size, 1, none⟩ = some (.string X) ∧ u.cell? ⟨w.heap.size, 2, none⟩ = some (.string Y) ∧ u.cell? ⟨w.heap.size, 3, none⟩ = some (.slice aa n ac) ∧ u.cell? ⟨w.heap.size, 4, none⟩ = some (.int .i64 a) from fun u hu => cells5 ((Blk.new w #[.int .i64 3, .string X, .string Y, .slice aa n ac, .int .i64 a] 45).below hu))
  cases hN : isNm x
  · rw [hN] at CN
    have CN := hide CN
    rw [Bool.false_and, Bool.false_and]
    clear hbp hbn hN ey hA hn hX
    go_enter Tryd.func30, Tryd.ntmps30
    go_wp2_with (first
      | (go_at_call 50; refine (CN.out _).mono ?_; rintro e w1 ⟨rfl, hy⟩; subst w1))
    go_ret2
    exact ⟨HB0.out, _, rfl, by simp⟩
  · rw [hN] at CN
    have CN := hide CN
    rw [Bool.true_and]
    by_cases htt : tt = []
    · rw [decide_eq_true htt] at ey ⊢
      rw [Bool.and_true]
      by_cases h16 : n ≤ 16
      · have h16' : ¬ (16 : Int) < (n : Int) := by omega
        obtain ⟨R, hR⟩ : ∃ R, okA ps = R := ⟨_, rfl⟩
        rw [hR]
        have HR : Hid (allN n (okA1 ps) = R) := hide (by rw [← hR]; unfold okA; rw [hn, decide_eq_true h16]; rfl)
        have HP := hide (hbp h16)
        have HA := hide hA
        have HN := hide hn
        have hn16 : (n : Int) ≤ 16 := by omega
        have HS0 := hide (show (({ data := #[60] } : ByteArray) ++ X).data.toList = [60] ++ x ++ (ps.take 0).flatMap aT by rw [cat17, hX]; simp)
        have HAS := hide (fun w' (h : Below (w.alloc (.cells #[.int .i64 3, .string X, .string Y, .slice aa n ac, .int .i64 a] 45)).heap.size (w.alloc (.cells #[.int .i64 3, .string X, .string Y, .slice aa n ac, .int .i64 a] 45)) w') => hA.below (HB0.out.trans (h.mono HB0.out.size)))
        have HBW := hide (fun w' (h : Below (w.alloc (.cells #[.int .i64 3, .string X, .string Y, .slice aa n ac, .int .i64 a] 45)).heap.size (w.alloc (.cells #[.int .i64 3, .string X, .string Y, .slice aa n ac, .int .i64 a] 45)) w') => HB0.out.trans (h.mono HB0.out.size))
        have HXL := hide (show x.length ≤ 1048576 by have := size_l X; rw [hX] at this; omega)
        have HRF := hide (Below.refl (w.alloc (.cells #[.int .i64 3, .string X, .string Y, .slice aa n ac, .int .i64 a] 45)).heap.size (w.alloc (.cells #[.int .i64 3, .string X, .string Y, .slice aa n ac, .int .i64 a] 45)))
        clear hbp hbn hN hA hn hX htt hR h16
        go_enter Tryd.func30, Tryd.ntmps30
        go_wp2_with (first
          | (go_at_call 50; refine (CN.out _).mono ?_; rintro e w1 ⟨rfl, hy⟩; subst w1))
        generalize (w.alloc (.cells #[.int .i64 3, .string X, .string Y, .slice aa n ac, .int .i64 a] 45)) = W0 at HAS HBW HRF KT ⊢
        go_loopw [6, 7] (fun vs vi wr => ∃ (j : Nat) (Sb : ByteArray), vi = .int .i64 j ∧ vs = .string Sb ∧ Hid (j ≤ n ∧ Sb.data.toList = [60] ++ x ++ (ps.take j).flatMap aT ∧ allN j (okA1 ps) = true ∧ Below W0.heap.size W0 wr)) (fun _ vi _ => n - (RowKit.intOf vi).toNat)
        case atStart => exact ⟨0, _, rfl, rfl, hide ⟨by omega, HS0.out, rfl, HRF.out⟩⟩
        case round =>
          clear HS0 HRF HB0
          obtain ⟨j, Sb, rfl, rfl, HJ⟩ := hrel
          obtain ⟨j1, j2, j3, j4⟩ := HJ.out
          clear HJ
          have hsb : (Sb.size : Int) ≤ 100000000 := by
            have h1 := ats_len (ps.take j)
            have h2 := szA_bd (ps.take j) 65536 (fun p hp => HP.out p (List.mem_of_mem_take hp))
            have h3 : (ps.take j).length ≤ 16 := by rw [List.length_take]; have := HN.out; omega
            have h4 := size_l Sb
            rw [j2] at h4
            simp only [List.length_append, List.length_cons, List.length_nil] at h4
            have := HXL.out
            omega
          obtain ⟨g0, g1, g2, g3, g4⟩ := KT.out wr j4
          have HJB := hide j4
          by_cases hj : j < n
          · have hj' : (j : Int) < (n : Int) := by omega
            rcases HAS.out wr j4 with h0 | ⟨b, off, rfl, hlt, hcell⟩
            · have := HN.out; rw [h0] at this; simp at this; omega
            obtain ⟨d0, d1⟩ := hcell j (by have := HN.out; omega)
            have hfl := flat_take aT ([], []) ps j (by have := HN.out; omega)
            have hmem : ps.getD j ([], []) ∈ ps := by rw [List.getD_eq_getElem?_getD, List.getElem?_eq_getElem (by have := HN.out; omega)]; exact List.getElem_mem _
            obtain ⟨hz1, hz2⟩ := HP.out _ hmem
            have hok : okA1 ps j = (isNm (ps.getD j ([], [])).1 && !nmd (ps.take j) (ps.getD j ([], [])).1 && pln (ps.getD j ([], [])).2) := rfl
            generalize ps.getD j ([], []) = q at *
            obtain ⟨q1, q2⟩ := q
            simp only at d0 d1 hz1 hz2 hok
            have CE := fun w => rescape_any ⟨q2.toArray⟩ w (by rw [size_m]; omega)
            rw [mk_l] at CE
            have CN2 := fun w => rName_any q1 w (by omega)
            have hpe := pln_esc q2
            have hpt := @pln_txt q2
            have hQ1 := mk_l q1
            obtain ⟨⟨Z, E⟩, hZE⟩ : ∃ R, escV q2 = R := ⟨_, rfl⟩
            rw [hZE] at CE hpe hpt
            simp only at CE hpe hpt
            have hZ := mk_l Z
            have hbq : ∀ x : List UInt8, ((⟨x.toArray⟩ : ByteArray).toList == (⟨q1.toArray⟩ : ByteArray).toList) = (x == q1) := fun x => str_beq x q1
            generalize (⟨q1.toArray⟩ : ByteArray) = Q1 at *
            generalize (⟨q2.toArray⟩ : ByteArray) = Q2 at *
            generalize (⟨Z.toArray⟩ : ByteArray) = ZZ at *
            have HQ := hide (show ∀ u, Below wr.heap.size wr u → u.cell? ⟨b, off + j * 2, none⟩ = some (.string Q1) from fun u hu => by rw [hu.cell (p := ⟨b, off + j * 2, none⟩) hlt]; exact d0)
            have CE := hide CE
            by_cases hE : E = 0
            · subst hE
              have hpt' := hpt (by rw [hpe]; rfl)
              rw [show pln q2 = true by rw [hpe]; rfl, Bool.and_true] at hok
              cases hN2 : isNm q1
              · rw [hN2] at CN2 hok
                have CN2 := hide CN2
                obtain rfl : R = false := by rw [← HR.out]; exact allN_no hj (by rw [hok]; rfl)
                clear hok hN2 hpe hpt hpt' hmem hfl j2 j3 j4 hz1 hz2 hZ hQ1 hcell HR hZE hbq
                go_wp2_with (first
                  | (go_at_call 18; refine (CE.out _).mono ?_; rintro e w1 ⟨rfl, h1⟩; have h2 := HJB.out.trans (h1.mono HJB.out.size); obtain ⟨e0, e1, e2, e3, e4⟩ := KT.out w1 h2; have H2 := hide h2; have d0 := HQ.out w1 h1; clear h1 h2)
                  | (go_at_call 50; refine (CN2.out _).mono ?_; rintro e w2 ⟨rfl, hy⟩; subst w2))
                go_ret2
                exact ⟨HBW.out _ H2.out, _, rfl, by simp⟩
              · rw [hN2] at CN2 hok
                have CN2 := hide CN2
                rw [Bool.true_and] at hok
                have HOK := hide hok
                have HBQ := hide hbq
                have HCT := hide (show (Sb ++ (({ data := #[32] } : ByteArray) ++ Q1 ++ ({ data := #[61, 34] } : ByteArray) ++ ZZ ++ ({ data := #[34] } : ByteArray))).data.toList = [60] ++ x ++ (ps.take (j + 1)).flatMap aT by
                  rw [cat17, cat17, cat17, cat17, cat17, hZ, hQ1, hpt', j2, hfl]; unfold aT; simp only [List.append_assoc])
                have HJ3 := hide j3
                have hqz : (Q1.size : Int) ≤ 65536 := by have := size_l Q1; rw [hQ1] at this; omega
                have hzz : (ZZ.size : Int) ≤ 400000 := by have := size_l ZZ; rw [hZ, hpt'] at this; have := esc_len q2; omega
                clear hok hN2 hpe hpt hpt' hmem hfl j2 j3 j4 hz1 hz2 hZ hQ1 hcell hZE hbq
                go_wp2_with (first
                  | (go_at_call 18; refine (CE.out _).mono ?_; rintro e w1 ⟨rfl, h1⟩; have h2 := HJB.out.trans (h1.mono HJB.out.size); obtain ⟨e0, e1, e2, e3, e4⟩ := KT.out w1 h2; have H2 := hide h2; have d0 := HQ.out w1 h1; clear h1 h2)
                  | (go_at_call 50; refine (CN2.out _).mono ?_; rintro e w2 ⟨rfl, hy⟩; subst w2))
                go_loopw [10] (fun vk wz => ∃ i : Nat, vk = .int .i64 i ∧ Hid (i ≤ j ∧ (ps.take i).any (fun p => p.1 == q1) = false ∧ Below w1.heap.size w1 wz)) (fun vk _ => j - (RowKit.intOf vk).toNat)
                case atStart => exact ⟨0, rfl, hide ⟨by omega, by simp, Below.refl _ _⟩⟩
                case round =>
                  obtain ⟨i, rfl, HI⟩ := hrel
                  obtain ⟨i1, i2, i3⟩ := HI.out
                  clear HI g0 g1 g2 g3 g4 e0 e1 e2 e3 e4
                  have i4 := H2.out.trans (i3.mono H2.out.size)
                  obtain ⟨g0, g1, g2, g3, g4⟩ := KT.out _ i4
                  by_cases hi : i < j
                  · have hi' : (i : Int) < (j : Int) := by omega
                    have hin : (i : Int) < (n : Int) := by omega
                    rcases HAS.out _ i4 with h0 | ⟨b', off', he, hlt', hcell⟩
                    · have := HN.out; rw [h0] at this; simp at this; omega
                    have eb : b = b' := by injection he with he; injection he
                    have eo : off = off' := by injection he with he; injection he
                    clear he
                    subst eb
                    subst eo
                    obtain ⟨c0, _⟩ := hcell i (by have := HN.out; omega)
                    obtain ⟨f0, _⟩ := hcell j (by have := HN.out; omega)
                    have htk : ps.take (i + 1) = ps.take i ++ [ps.getD i ([], [])] := by
                      rw [List.take_succ_eq_append_getElem (by have := HN.out; omega), List.getD_eq_getElem?_getD, List.getElem?_eq_getElem (by have := HN.out; omega)]; rfl
                    have hmem : ps.getD i ([], []) ∈ ps.take j := by
                      rw [List.getD_eq_getElem?_getD, List.getElem?_eq_getElem (by have := HN.out; omega)]
                      exact List.mem_take_iff_getElem.2 ⟨i, by have := HN.out; omega, rfl⟩
                    have d0' := HQ.out
                    clear f0
                    have f0 : wr.cell? ⟨b, off + j * 2, none⟩ = some (.string Q1) := by rw [i3.cell (p := ⟨b, off + j * 2, none⟩) (gcell_lt d0)]; exact d0
                    have hbq := HBQ.out (ps.getD i ([], [])).1
                    generalize ps.getD i ([], []) = pr at *
                    obtain ⟨r1, r2⟩ := pr
                    simp only at c0 hbq hmem htk
                    generalize (⟨r1.toArray⟩ : ByteArray) = R1 at c0 hbq
                    cases hq : r1 == q1
                    · rw [hq] at hbq
                      have K := hide (show (ps.take (i + 1)).any (fun p => p.1 == q1) = false by rw [htk, List.any_append, i2]; simp [hq])
                      have I3 := hide i3
                      clear i2 i3 i4 htk hmem hq hcell d0 d0'
                      go_wp2_with fail
                      go_quiet (fail)
                      go_wp2_with fail
                      go_roundw
                      case rel => exact ⟨i + 1, by go_num, hide ⟨by omega, K.out, I3.out.trans (below_drewN' _ _ |>.mono I3.out.size)⟩⟩
                      case measure => simp [RowKit.intOf]; omega
                    · rw [hq] at hbq
                      have hdup : nmd (ps.take j) q1 = true := by unfold nmd; rw [List.any_eq_true]; exact ⟨_, hmem, hq⟩
                      obtain rfl : R = false := by rw [← HR.out]; exact allN_no hj (by rw [HOK.out, hdup]; rfl)
                      have I4 := hide i4
                      clear i2 i3 i4 htk hmem hq hcell d0 d0' HR hdup
                      go_wp2_with fail
                      go_quiet (fail)
                      go_wp2_with fail
                      go_ret2
                      exact ⟨HBW.out _ (I4.out.trans (below_drewN' _ _ |>.mono I4.out.size)), _, rfl, by simp⟩
                  · have hi' : ¬ (i : Int) < (j : Int) := by omega
                    obtain rfl : i = j := by omega
                    have HST := hide (allN_step HJ3.out (by rw [HOK.out, show nmd (ps.take i) q1 = false from i2]; rfl))
                    have f0 : wr.cell? ⟨b, off + i * 2, none⟩ = some (.string Q1) := by rw [i3.cell (p := ⟨b, off + i * 2, none⟩) (gcell_lt d0)]; exact d0
                    have I4 := hide i4
                    clear i2 i3 i4 d0
                    go_wp2_with fail
                    go_roundw
                    case rel => exact ⟨i + 1, _, by go_num, rfl, hide ⟨by omega, HCT.out, HST.out, I4.out⟩⟩
                    case measure => simp [RowKit.intOf]; omega
            · have fE : (E == 0) = false := by rw [beq_eq_false_iff_ne]; exact hE
              rw [show pln q2 = false by rw [hpe]; exact decide_eq_false hE, Bool.and_false] at hok
              obtain rfl : R = false := by rw [← HR.out]; exact allN_no hj hok
              clear hok hpe hpt hmem hfl j2 j3 j4 hz1 hz2 hZ hQ1 hcell HR hZE hbq CN2
              go_wp2_with (first
                | (go_at_call 18; refine (CE.out _).mono ?_; rintro e w1 ⟨rfl, h1⟩; have h2 := HJB.out.trans (h1.mono HJB.out.size); obtain ⟨e0, e1, e2, e3, e4⟩ := KT.out w1 h2; have H2 := hide h2; have d0 := HQ.out w1 h1; clear h1 h2))
              go_ret2
              exact ⟨HBW.out _ H2.out, _, rfl, by simp⟩
          · have hj' : ¬ (j : Int) < (n : Int) := by omega
            obtain rfl : j = n := by omega
            rw [List.take_of_length_le (by have := HN.out; omega)] at j2
            have hr := HR.out
            rw [j3] at hr
            subst hr
            have HCT := hide (show (Sb ++ ({ data := #[47] } : ByteArray) ++ ({ data := #[62] } : ByteArray)).data.toList = [60] ++ x ++ ps.flatMap aT ++ [47] ++ [62] by rw [cat17, cat17, j2])
            clear j2 j3 j4 HR
            go_wp2_with fail
            go_ret2
            exact ⟨HBW.out _ HJB.out, _, rfl, by have := HCT.out; simpa using this⟩
      · have h16' : (16 : Int) < (n : Int) := by omega
        rw [show okA ps = false by unfold okA; rw [hn, decide_eq_false h16]; rfl]
        clear hbp hbn hN hA hn hX htt h16
        go_enter Tryd.func30, Tryd.ntmps30
        go_wp2_with (first
          | (go_at_call 50; refine (CN.out _).mono ?_; rintro e w1 ⟨rfl, hy⟩; subst w1))
        go_ret2
        exact ⟨HB0.out, _, rfl, by simp⟩
    · rw [decide_eq_false htt] at ey ⊢
      rw [Bool.and_false]
      clear hbp hbn hN hA hn hX htt
      go_enter Tryd.func30, Tryd.ntmps30
      go_wp2_with (first
        | (go_at_call 50; refine (CN.out _).mono ?_; rintro e w1 ⟨rfl, hy⟩; subst w1))
      go_ret2
      exact ⟨HB0.out, _, rfl, by simp⟩
theorem rone_n (t : Tg) (aa : Option Addr) (ac : Nat) (w : World) (hk : t.k < 1 ∨ 4 < t.k) (hbn : t.ps.length ≤ 17592186044416) :
    Calls Tryd.prog 30 #[tgv t aa ac] w (RoR w t) := by
  obtain ⟨k, x, tt, ps, a⟩ := t
  simp only at hk hbn
  have f4 : ¬ k = 4 := by omega
  have hR : okT ⟨k, x, tt, ps, a⟩ = false := by
    unfold okT
    simp only
    rw [if_neg (by omega), if_neg (by omega), if_neg (by omega)]
  unfold RoR
  rw [hR]
  dsimp only [tgv]
  obtain ⟨n, hn⟩ : ∃ n, ps.length = n := ⟨_, rfl⟩
  rw [hn]
  generalize (⟨x.toArray⟩ : ByteArray) = X at *
  generalize (⟨tt.toArray⟩ : ByteArray) = Y at *
  have HB0 := hide ((Below.refl w.heap.size w).alloc (Nat.le_refl _) (.cells #[.int .i64 k, .string X, .string Y, .slice aa n ac, .int .i64 a] 45))
  clear hR hn hbn
  rcases hk with h1 | h3
  · go_enter Tryd.func30, Tryd.ntmps30
    go_wp2_with fail
    go_ret2
    first | exact ⟨HB0.out, _, rfl⟩ | exact ⟨HB0.out, _, rfl, by simp⟩
  · have h1 : ¬ k < 1 := by omega
    have h3' : 3 < k := by omega
    have f2 : ¬ k = 2 := by omega
    clear h3
    go_enter Tryd.func30, Tryd.ntmps30
    go_wp2_with fail
    go_ret2
    first | exact ⟨HB0.out, _, rfl⟩ | exact ⟨HB0.out, _, rfl, by simp⟩
structure TgN (t : Tg) : Prop where
  hx : t.x.length ≤ 65536
  ht : t.t.length ≤ 65536
  n : t.ps.length ≤ 17592186044416
  ps : t.ps.length ≤ 16 → ∀ p ∈ t.ps, p.1.length ≤ 65536 ∧ p.2.length ≤ 65536
theorem TgN.m {t : Tg} (h : TgN t) : TgM t := ⟨by have := h.hx; omega, by have := h.ht; omega, h.n, fun h16 p hp => by have := h.ps h16 p hp; omega⟩
theorem rone_any (t : Tg) (aa : Option Addr) (ac : Nat) (w : World) (hA : ALs w aa t.ps) (hm : TgN t) :
    Calls Tryd.prog 30 #[tgv t aa ac] w (RoR w t) := by
  by_cases h4 : t.k = 4
  · exact rone_4 t aa ac w h4 hm.ht hm.n
  · obtain ⟨hx, ht, hn, hp⟩ := hm
    obtain ⟨k, x, tt, ps, a⟩ := t
    simp only at h4 hA hx ht hn hp
    by_cases h1 : k = 1
    · subst h1; exact rone_o x tt ps a aa ac w hA (by omega) hn hp
    · by_cases h2 : k = 2
      · subst h2; exact rone_c x tt ps a aa ac w hA (by omega) hn hp
      · by_cases h3 : k = 3
        · subst h3; exact rone_e x tt ps a aa ac w hA (by omega) hn hp
        · exact rone_n ⟨k, x, tt, ps, a⟩ aa ac w (by show k < 1 ∨ 4 < k; omega) hn
theorem brow_val {w : World} {B : Nat} {v : Value} {ys : List UInt8} (h : BRow w B v ys) : ∃ ao c, v = .slice ao ys.length c := by
  obtain ⟨_, ⟨h0, h1⟩ | ⟨g, cap, cur, hv, _⟩⟩ := h
  · exact ⟨none, 0, by rw [h0, h1]⟩
  · exact ⟨_, _, hv⟩
set_option maxHeartbeats 2000000 in
theorem rprint_any (a : Option Addr) (cap n : Nat) (ts : List Tg) (w : World) (hn : ts.length = n) (h6 : n ≤ 1000000) (h : GLs w a ts) (hb : ∀ t ∈ ts, TgN t) (hs : szL ts ≤ 20000) :
    Calls Tryd.prog 16 #[.slice a n cap] w fun e w' => e = .returned (.tuple #[.string ⟨(prV ts).1.toArray⟩, .int .i64 (prV ts).2]) ∧ Below w.heap.size w w' := by
  have h6' : (n : Int) ≤ 1000000 := by omega
  obtain ⟨⟨PT, PE⟩, hP⟩ : ∃ R, prV ts = R := ⟨_, rfl⟩
  rw [hP]
  unfold prV at hP
  have HP := hide hP
  obtain ⟨OK, hOK⟩ : ∃ R, okL ts = R := ⟨_, rfl⟩
  have HOK := hide hOK
  have HA := hide h
  have HN := hide hn
  have HB := hide hb
  have HS := hide hs
  obtain ⟨i0, hi, hz0, hz1, hz2⟩ := info_parts info_u8
  have HI := hide hi
  have HI0 := hide hz0
  have HI1 := hide hz1
  have HI2 := hide hz2
  have HLN := hide (fun k (hk : k ≤ n) (hok : allN k (okL1 ts) = true) => Nat.le_trans (prL_len (ts := ts.take k) (allN_iff.2 fun i hi => by
    rw [List.length_take] at hi
    have := allN_iff.1 hok i (by omega)
    unfold okL1 two at this ⊢
    rw [List.getD_eq_getElem?_getD, List.getD_eq_getElem?_getD, List.getElem?_take, List.getElem?_take, if_pos (by omega), if_pos (by omega)]
    rw [List.getD_eq_getElem?_getD, List.getD_eq_getElem?_getD] at this
    exact this)) (Nat.mul_le_mul_left 10 (sz_take ts k)))
  clear h hn hb hs hP hOK hi hz0 hz1 hz2
  go_enter Tryd.func16, Tryd.ntmps16
  go_wp2_with fail
  go_loopw [4, 5] (fun vb vi wr => ∃ j : Nat, vi = .int .i64 j ∧ Hid (j ≤ n ∧ BRow wr w.heap.size vb ((ts.take j).flatMap txT) ∧ allN j (okL1 ts) = true ∧ Below w.heap.size w wr)) (fun _ vi _ => n - (RowKit.intOf vi).toNat)
  case atStart => exact ⟨0, rfl, hide ⟨by omega, by simpa using BRow.nil _ _, rfl, Below.refl _ _⟩⟩
  case round =>
    obtain ⟨j, rfl, HJ⟩ := hrel
    obtain ⟨j1, j2, j3, j4⟩ := HJ.out
    clear HJ
    have hjl : ((ts.take j).flatMap txT).length ≤ 200000 := by have := HLN.out j j1 j3; have := HS.out; omega
    by_cases hj : j < n
    · have hj' : (j : Int) < (n : Int) := by omega
      have hfl := flat_take txT tg0 ts j (by have := HN.out; omega)
      obtain ⟨AL, hAL⟩ : ∃ AL, (ts.take j).flatMap txT = AL := ⟨_, rfl⟩
      rw [hAL] at hfl j2 hjl
      clear hAL
      rcases HA.out.below j4 with h0 | ⟨b, off, rfl, hlt, hcell⟩
      · have := HN.out; rw [h0] at this; simp at this; omega
      obtain ⟨aa, ac, c0, c1, c2, c3, c4, hal, hcap⟩ := hcell j (by have := HN.out; omega)
      have hpv : 0 < j → wr.cell? ⟨b, off + (j - 1) * 5, none⟩ = some (.int .i64 (ts.getD (j - 1) tg0).k) := fun hk => by
        obtain ⟨_, _, q0, _⟩ := hcell (j - 1) (by have := HN.out; omega)
        exact q0
      have hmem : ts.getD j tg0 ∈ ts := by rw [List.getD_eq_getElem?_getD, List.getElem?_eq_getElem (by have := HN.out; omega)]; exact List.getElem_mem _
      have CO := rone_any (ts.getD j tg0) aa ac wr hal (HB.out _ hmem)
      unfold RoR at CO
      have hok : okL1 ts j = (okT (ts.getD j tg0) && !(decide (0 < j) && ((ts.getD j tg0).k == 4) && ((ts.getD (j - 1) tg0).k == 4))) := rfl
      have hsl := sum_le szT ts _ hmem
      have htl := @txT_len (ts.getD j tg0)
      have hs2 : szT (ts.getD j tg0) ≤ 20000 := by have := HS.out; unfold szL at this; omega
      clear hcell hmem hsl
      generalize ts.getD j tg0 = t at *
      obtain ⟨TX, hTX⟩ : ∃ TX, txT t = TX := ⟨_, rfl⟩
      rw [hTX] at CO hfl htl
      obtain ⟨OT, hOT⟩ : ∃ R, okT t = R := ⟨_, rfl⟩
      rw [hOT] at CO hok htl
      obtain ⟨κ, x, tt, ps, ta⟩ := t
      simp only at c0 c1 c2 c3 c4 hok hal
      dsimp only [tgv] at CO
      clear hOT hTX
      generalize (⟨x.toArray⟩ : ByteArray) = X at *
      generalize (⟨tt.toArray⟩ : ByteArray) = Y at *
      obtain ⟨m, hm⟩ : ∃ m, ps.length = m := ⟨_, rfl⟩
      rw [hm] at c3 CO
      have CO := hide CO
      have J2 := hide j2
      have J4 := hide j4
      have HC0 := hide (show ∀ u, Below wr.heap.size wr u → u.cell? ⟨b, off + j * 5, none⟩ = some (.int .i64 κ) from fun u hu => by rw [hu.cell (p := ⟨b, off + j * 5, none⟩) hlt]; exact c0)
      cases OT
      · have hf : OK = false := by
          rw [← HOK.out]; unfold okL; rw [HN.out]; exact allN_no hj (by rw [hok]; rfl)
        have hR := HP.out
        rw [HOK.out, hf, if_neg (by simp)] at hR
        injection hR with e1 e2
        subst e1
        subst e2
        clear hok hfl htl hs2 hal hcap j2 j3 j4 hm hpv HP hf
        go_wp2_with (first
          | (go_at_call 30; refine CO.out.mono ?_; rintro e w1 ⟨h1, y, rfl, _⟩; have H1 := hide (J4.out.trans (h1.mono J4.out.size)); clear h1))
        go_ret2
        exact ⟨rfl, H1.out⟩
      · have htl := htl rfl
        have HGO := hide (fun (hf : okL1 ts j = true) => allN_step j3 hf)
        /- the append of what is written of it -/
        by_cases h0 : j = 0
        · subst h0
          have HST := hide (HGO.out (by rw [hok]; rfl))
          have HFL := hide hfl
          have HTL := hide (show TX.length ≤ 200000 by omega)
          have HJL := hide hjl
          simp only [Nat.zero_mul, Nat.add_zero] at c0 c1 c2 c3 c4
          clear hok hfl htl hs2 hal hcap j2 j3 j4 hm hpv HGO HC0 hjl
          go_wp2_with (first
            | (go_at_call 30; refine CO.out.mono ?_; rintro e w1 ⟨h1, y, rfl, hy⟩; have hy := hy rfl; have HY := hide hy; have H1 := hide (J4.out.trans (h1.mono J4.out.size)); have J2' := hide (own_below J2.out J4.out h1); clear h1 hy)
            | (at_builtin; refine Lib.wpList_append_own_string _ rfl _ _ 56 9 rfl w.heap.size 5 i0 Tryd.underlying56 Tryd.underlying9 HI.out HI0.out HI1.out HI2.out _ _ _ rfl J2'.out y rfl ?d1 ?d2 ?d3 ?_))
          case d1 => have := HTL.out; have := HJL.out; have h5 := size_l y; rw [HY.out] at h5; unfold maxLen; omega
          case d2 => have := HTL.out; have := HJL.out; have h5 := size_l y; rw [HY.out] at h5; omega
          case d3 => exact H1.out.size
          intro v3 w3 hown3 hgrow3 _
          have HB3 := hide (show Below w.heap.size w w3 from H1.out.grown hgrow3 H1.out.size (fun k hk => (World.ownsRow.lt J2'.out k hk).1))
          have HO3 := hide (show BRow w3 w.heap.size v3 ((ts.take (0 + 1)).flatMap txT) by
            rw [HFL.out, ← HY.out]
            unfold BRow
            rw [show Lib.strCells y = y.data.toList.map bcell from rfl] at hown3
            rw [List.map_append, List.length_append, size_l]
            exact hown3)
          clear hown3 hgrow3
          go_wp2
          go_roundw
          case rel => exact ⟨1, by first | rfl | go_num, hide ⟨by omega, HO3.out, HST.out, HB3.out⟩⟩
          case measure => simp [RowKit.intOf]; omega
        · have hj0 : (0 : Int) < (j : Int) := by omega
          have hq0 := hpv (by omega)
          obtain ⟨p, hp⟩ : ∃ p, j - 1 = p := ⟨_, rfl⟩
          have hpe : (j : Int) - 1 = (p : Int) := by omega
          have hpn : (p : Int) < (n : Int) := by omega
          rw [hp] at hq0 hok
          by_cases h44 : κ = 4 ∧ (ts.getD p tg0).k = 4
          · obtain ⟨rfl, hv4⟩ := h44
            rw [hv4] at hq0
            have hf : OK = false := by
              rw [← HOK.out]; unfold okL; rw [HN.out]; exact allN_no hj (by rw [hok, hv4, decide_eq_true (show 0 < j by omega)]; rfl)
            have hR := HP.out
            rw [HOK.out, hf, if_neg (by simp)] at hR
            injection hR with e1 e2
            subst e1
            subst e2
            have HQ := hide (show ∀ u, Below wr.heap.size wr u → u.cell? ⟨b, off + p * 5, none⟩ = some (.int .i64 4) from fun u hu => by rw [hu.cell (p := ⟨b, off + p * 5, none⟩) hlt]; exact hq0)
            clear hok hfl htl hs2 hal hcap j2 j3 j4 hm hpv HP hf hq0 hv4 hp h0 HGO
            go_wp2_with (first
              | (go_at_call 30; refine CO.out.mono ?_; rintro e w1 ⟨h1, y, rfl, _⟩; have g0 := HC0.out w1 h1; have g1 := HQ.out w1 h1; have H1 := hide (J4.out.trans (h1.mono J4.out.size)); clear h1))
            go_ret2
            exact ⟨rfl, H1.out⟩
          · have hf : okL1 ts j = true := by
              rw [hok]
              by_cases hk : κ = 4
              · rw [show ((ts.getD p tg0).k == 4) = false by rw [beq_eq_false_iff_ne]; exact fun h => h44 ⟨hk, h⟩]; simp
              · rw [show (κ == 4) = false by rw [beq_eq_false_iff_ne]; exact hk]; simp
            have HST := hide (HGO.out hf)
            have HFL := hide hfl
            have HTL := hide (show TX.length ≤ 200000 by omega)
            have HJL := hide hjl
            have HK := hide (show κ = 4 → (ts.getD p tg0).k ≠ 4 from fun h1 h2 => h44 ⟨h1, h2⟩)
            generalize (ts.getD p tg0).k = κp at *
            have HQ := hide (show ∀ u, Below wr.heap.size wr u → u.cell? ⟨b, off + p * 5, none⟩ = some (.int .i64 κp) from fun u hu => by rw [hu.cell (p := ⟨b, off + p * 5, none⟩) hlt]; exact hq0)
            clear hok hfl htl hs2 hal hcap j2 j3 j4 hm hpv HGO hjl hf hq0 hp h0 h44
            by_cases hk : κ = 4
            · have hkp := HK.out hk
              subst hk
              have fp : ¬ κp = 4 := hkp
              clear hkp HK
              go_wp2_with (first
                | (go_at_call 30; refine CO.out.mono ?_; rintro e w1 ⟨h1, y, rfl, hy⟩; have hy := hy rfl; have HY := hide hy; have g0 := HC0.out w1 h1; have g1 := HQ.out w1 h1; have H1 := hide (J4.out.trans (h1.mono J4.out.size)); have J2' := hide (own_below J2.out J4.out h1); clear h1 hy)
                | (at_builtin; refine Lib.wpList_append_own_string _ rfl _ _ 56 9 rfl w.heap.size 5 i0 Tryd.underlying56 Tryd.underlying9 HI.out HI0.out HI1.out HI2.out _ _ _ rfl J2'.out y rfl ?d1 ?d2 ?d3 ?_))
              case d1 => have := HTL.out; have := HJL.out; have h5 := size_l y; rw [HY.out] at h5; unfold maxLen; omega
              case d2 => have := HTL.out; have := HJL.out; have h5 := size_l y; rw [HY.out] at h5; omega
              case d3 => exact H1.out.size
              intro v3 w3 hown3 hgrow3 _
              have HB3 := hide (show Below w.heap.size w w3 from H1.out.grown hgrow3 H1.out.size (fun k hk => (World.ownsRow.lt J2'.out k hk).1))
              have HO3 := hide (show BRow w3 w.heap.size v3 ((ts.take (j + 1)).flatMap txT) by
                rw [HFL.out, ← HY.out]
                unfold BRow
                rw [show Lib.strCells y = y.data.toList.map bcell from rfl] at hown3
                rw [List.map_append, List.length_append, size_l]
                exact hown3)
              clear hown3 hgrow3
              go_wp2
              go_roundw
              case rel => exact ⟨j + 1, by go_num, hide ⟨by omega, HO3.out, HST.out, HB3.out⟩⟩
              case measure => simp [RowKit.intOf]; omega
            · clear HK
              go_wp2_with (first
                | (go_at_call 30; refine CO.out.mono ?_; rintro e w1 ⟨h1, y, rfl, hy⟩; have hy := hy rfl; have HY := hide hy; have g0 := HC0.out w1 h1; have H1 := hide (J4.out.trans (h1.mono J4.out.size)); have J2' := hide (own_below J2.out J4.out h1); clear h1 hy)
                | (at_builtin; refine Lib.wpList_append_own_string _ rfl _ _ 56 9 rfl w.heap.size 5 i0 Tryd.underlying56 Tryd.underlying9 HI.out HI0.out HI1.out HI2.out _ _ _ rfl J2'.out y rfl ?d1 ?d2 ?d3 ?_))
              case d1 => have := HTL.out; have := HJL.out; have h5 := size_l y; rw [HY.out] at h5; unfold maxLen; omega
              case d2 => have := HTL.out; have := HJL.out; have h5 := size_l y; rw [HY.out] at h5; omega
              case d3 => exact H1.out.size
              intro v3 w3 hown3 hgrow3 _
              have HB3 := hide (show Below w.heap.size w w3 from H1.out.grown hgrow3 H1.out.size (fun k hk => (World.ownsRow.lt J2'.out k hk).1))
              have HO3 := hide (show BRow w3 w.heap.size v3 ((ts.take (j + 1)).flatMap txT) by
                rw [HFL.out, ← HY.out]
                unfold BRow
                rw [show Lib.strCells y = y.data.toList.map bcell from rfl] at hown3
                rw [List.map_append, List.length_append, size_l]
                exact hown3)
              clear hown3 hgrow3
              go_wp2
              go_roundw
              case rel => exact ⟨j + 1, by go_num, hide ⟨by omega, HO3.out, HST.out, HB3.out⟩⟩
              case measure => simp [RowKit.intOf]; omega
    · have hj' : ¬ (j : Int) < (n : Int) := by omega
      obtain rfl : j = n := by omega
      have hf : OK = true := by rw [← HOK.out]; unfold okL; rw [HN.out]; exact j3
      have hR := HP.out
      rw [HOK.out, hf, if_pos rfl] at hR
      injection hR with e1 e2
      subst e2
      rw [List.take_of_length_le (by have := HN.out; omega), e1] at j2 hjl
      have hcv := j2.text
      obtain ⟨ao, co, rfl⟩ := brow_val j2
      obtain ⟨m, hm⟩ : ∃ m, PT.length = m := ⟨_, rfl⟩
      rw [hm] at hcv hjl ⊢
      have hmi : (m : Int) ≤ 200000 := by omega
      have J4 := hide j4
      clear j2 j3 j4 e1 hjl hf HP hm
      go_wp2_with fail
      go_ret2
      exact ⟨rfl, J4.out⟩
end Go.Proofs.YtpmdekhjodhdmaaDoor.K17
