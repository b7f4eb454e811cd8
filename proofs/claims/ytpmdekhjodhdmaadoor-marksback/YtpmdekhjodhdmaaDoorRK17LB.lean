/-
  The law MarksBack (k17lb.py).
-/
import Derived.Lib.LaidU8T
import Derived.MakeChecks
import Derived.Test.YtpmdekhjodhdmaaDoorRows
import Derived.Test.YtpmdekhjodhdmaaDoorR08
import Derived.Test.YtpmdekhjodhdmaaDoorR10
import Derived.Test.YtpmdekhjodhdmaaDoorR13
import Derived.Test.YtpmdekhjodhdmaaDoorR18
import Derived.Test.YtpmdekhjodhdmaaDoorR19
import Derived.Test.YtpmdekhjodhdmaaDoorR22
import Derived.Test.YtpmdekhjodhdmaaDoorR23
namespace Go.Proofs.YtpmdekhjodhdmaaDoor.K17
open Go.RowKit Go.Proofs.YtpmdekhjodhdmaaDoor
open Go.Lib
set_option linter.unusedVariables false
set_option linter.unusedSimpArgs false
set_option maxRecDepth 8000

theorem szL_m {ts : List Tg} (h : szL ts ≤ 100000) : ∀ t ∈ ts, TgM t ∧ t.ps.length ≤ 100000 := by
  intro t ht
  have h1 := sum_le szT ts t ht
  have h2 : szT t ≤ 100000 := by unfold szL at h; omega
  unfold szT at h2
  refine ⟨⟨by omega, by omega, by omega, fun h16 p hp => ?_⟩, by omega⟩
  rw [List.take_of_length_le (by omega)] at h2
  have h3 := sum_le (fun p : At => p.1.length + p.2.length) t.ps p hp
  unfold szA at h2
  omega
theorem len_sz : ∀ ts : List Tg, ts.length ≤ szL ts
  | [] => by simp
  | t :: r => by
    have := len_sz r
    unfold szL at *
    rw [List.map_cons, List.sum_cons, List.length_cons]
    have : 1 ≤ szT t := by unfold szT; omega
    omega
theorem scR_len4 (l : List UInt8) : (scR l).1.length ≤ 4 * l.length := by
  obtain ⟨⟨us, P, E⟩, h⟩ : ∃ R, scR l = R := ⟨_, rfl⟩
  rw [h]
  by_cases hE : E = 0
  · have h1 := (scR_ok2 h hE).2
    have h2 := len_sz (us.map tgOf)
    rw [List.length_map] at h2
    show us.length ≤ _
    omega
  · rw [(scR_bad h hE).1]; simp
theorem trow_g {w : World} {B : Nat} {v : Value} {us : List Tk} {n : Nat} (hn : us.length = n) (h : TRow w B v us) : ∃ a c, v = .slice a n c ∧ GLs w a (us.map tgOf) := by
  obtain ⟨tv, h1, h2, h3⟩ := h
  have hg : GRow w B v (us.map tgOf) := by
    refine ⟨tv.map fun p => (tgOf p.1, p.2), by rw [← h1, List.map_map, List.map_map]; rfl, ?_, fun p hp => ?_⟩
    · have e : flG (tv.map fun p => (tgOf p.1, p.2)) = flT tv := by
        unfold flG flT
        rw [List.flatMap_map]
        rfl
      rw [e, List.length_map]
      exact h2
    · obtain ⟨q, hq, rfl⟩ := List.mem_map.1 hp
      exact (h3 q hq).1
  obtain ⟨a, c, hv, hl⟩ := hg.lst
  rw [List.length_map, hn] at hv
  exact ⟨a, c, hv, hl⟩
theorem galike {us : List Tk} {ts : List Tg} (h : us.map noA = ts.map tkOf) : GAlike (us.map tgOf) ts := by
  unfold GAlike
  have h2 := congrArg (List.map tgOf) h
  rw [List.map_map, List.map_map] at h2
  rw [List.map_map]
  have e1 : (noG ∘ tgOf) = (tgOf ∘ noA) := by funext t; rfl
  have e2 : (tgOf ∘ tkOf) = noG := by funext t; rfl
  rw [e1, h2, e2]
set_option maxHeartbeats 8000000 in
theorem back_walk (a : Option Addr) (n c : Nat) (ts : List Tg) (s : ByteArray) (w : World) (hI : GIn w a n ts) (hg : Glo w) (hm : MX w) (hz : s.size ≤ maxLen) : Calls Tryd.prog 6 #[.slice a n c, .string s] w fun e w' => e = .returned (.bool true) ∧ Below w.heap.size w w' := by
  have hz' : (s.size : Int) ≤ 9223372036854775807 := by unfold maxLen at hz; omega
  have CW := hide (fun w' (h : Below w.heap.size w w') => wakes_any w' (hg.below h) (hm.below h))
  have CL := hide (long_any a n c ts w hI)
  have HI := hide hI
  have HG := hide hg
  have HM := hide hm
  clear hI hg hm
  go_enter Tryd.func6, Tryd.ntmps6
  go_wp2_with fail
  refine CL.out.mono ?_
  rintro e w0 ⟨bb, rfl, hbb, h0⟩
  have H0 := hide h0
  cases bb with
  | true =>
    clear hbb h0 CL
    go_wp2_with (go_at_call 9; refine (CW.out _ H0.out).mono ?_; rintro e w4 ⟨rfl, hb4⟩)
    go_ret
    exact ⟨rfl, H0.out.trans (hb4.mono H0.out.size)⟩
  | false =>
    by_cases h3 : s.size ≤ 20000
    · have h3' : ¬ (20000 : Int) < (s.size : Int) := by omega
      have h3i : (s.size : Int) ≤ 20000 := by omega
      obtain ⟨h4, hs⟩ := hbb rfl
      have hln := HI.out.len
      have CC1 := hide (rcopy_any a n c ts w0 hln (by omega) (fun t ht => by have := (szL_m (by omega) t ht).2; omega) (HI.out.lst.below h0))
      have CP1 := hide (fun a' c' w' (hb : Below w.heap.size w w') (h : GLs w' a' ts) => print_any a' c' n ts w' (HG.out.below hb) hln (by omega) h (fun t ht => (szL_m (by omega) t ht).1) (by omega))
      have CS2 := hide (fun w' (hb : Below w.heap.size w w') => scan_any s w' (HG.out.below hb) (HM.out.below hb) (by omega))
      have hl2 := scR_len4 s.data.toList
      rw [size_l] at hl2
      obtain ⟨⟨us2, P2, E2⟩, hS2⟩ : ∃ R, scR s.data.toList = R := ⟨_, rfl⟩
      rw [hS2] at CS2 hl2
      simp only at hl2
      obtain ⟨n2, hn2'⟩ : ∃ n2, us2.length = n2 := ⟨_, rfl⟩
      have HU2 := hide hn2'
      rw [hn2'] at hl2
      clear hn2'
      unfold prV at CP1
      cases hok : okL ts
      · rw [hok] at CP1
        simp only [Bool.false_eq_true, if_false] at CP1
        clear hbb h0 CL hz h4 hs hln hok
        by_cases hE : E2 = 0
        · subst hE
          obtain ⟨ok2, sz2⟩ := scR_ok2 hS2 rfl
          rw [size_l] at sz2
          have hn2 : (us2.map tgOf).length = n2 := by rw [List.length_map]; exact HU2.out
          have CC2 := hide (fun a' c' w' (h : GLs w' a' (us2.map tgOf)) => rcopy_any a' n2 c' (us2.map tgOf) w' hn2 (by omega) (fun t ht => by
            have h1 := (szL_m (by omega) t ht).2
            omega) h)
          obtain ⟨us3, hs3, hn3⟩ := scR_print ok2
          have hp2 := prL_len ok2
          have CP2 := hide (fun a' c' w' (hb : Below w.heap.size w w') (h : GLs w' a' (us2.map tgOf)) => print_any a' c' n2 (us2.map tgOf) w' (HG.out.below hb) hn2 (by omega) h (fun t ht => (szL_m (by omega) t ht).1) (by omega))
          have hal2 := galike hn3
          have hl3 : us3.length = n2 := by
            have := congrArg List.length hn3
            rw [List.length_map, List.length_map] at this
            omega
          have HU3 := hide hl3
          unfold prV at CP2
          rw [ok2] at CP2
          simp only [if_true] at CP2
          have hzz := size_m ((us2.map tgOf).flatMap txT)
          have hml := mk_l ((us2.map tgOf).flatMap txT)
          generalize (⟨((us2.map tgOf).flatMap txT).toArray⟩ : ByteArray) = ZU at CP2 hzz hml
          have CS3 := hide (fun w' (hb : Below w.heap.size w w') => scan_any ZU w' (HG.out.below hb) (HM.out.below hb) (by omega))
          rw [hml, hs3] at CS3
          have CE2 := hide (fun a' b' ca cb w' (h1 : GLs w' a' (us3.map tgOf)) (h2 : GLs w' b' (us2.map tgOf)) => gsame_any a' b' ca cb n2 (us3.map tgOf) (us2.map tgOf) w' (by rw [List.length_map]; exact hl3) (by omega) h1 h2 hal2)
          clear hS2 ok2 sz2 hn2 hs3 hn3 hp2 hal2 hl3 hzz hml
          go_wp2_with (first
            | (go_at_call 14; refine CC1.out.mono ?_; rintro e w1 ⟨a1, c1, rfl, h1, h2⟩; have G1 := hide h1; have H1 := hide (H0.out.trans (h2.mono H0.out.size)); clear h1 h2 CC1)
            | (go_at_call 15; refine (CP1.out _ _ _ H1.out G1.out).mono ?_; rintro e w2 ⟨rfl, h1⟩; have HX := hide (H1.out.trans (h1.mono H1.out.size)); clear h1 CP1)
            | (go_at_call 10; refine (CS2.out _ HX.out).mono ?_; rintro e w5 ⟨v5, rfl, h1, h2⟩; obtain ⟨a5, c5, rfl, g5⟩ := trow_g HU2.out h1; have G5 := hide g5; have H5 := hide (HX.out.trans (h2.mono HX.out.size)); clear h1 h2 g5 CS2)
            | (go_at_call 14; refine (CC2.out _ _ _ G5.out).mono ?_; rintro e w6 ⟨a6, c6, rfl, h1, h2⟩; have G6 := hide h1; have G7 := hide (G5.out.below h2); have H6 := hide (H5.out.trans (h2.mono H5.out.size)); clear h1 h2 CC2)
            | (go_at_call 15; refine (CP2.out _ _ _ H6.out G6.out).mono ?_; rintro e w7 ⟨rfl, h1⟩; have G8 := hide (G7.out.below h1); have H7 := hide (H6.out.trans (h1.mono H6.out.size)); clear h1 CP2)
            | (go_at_call 10; refine (CS3.out _ H7.out).mono ?_; rintro e w8 ⟨v8, rfl, h1, h2⟩; obtain ⟨a8, c8, rfl, g8⟩ := trow_g HU3.out h1; have G9 := hide g8; have G10 := hide (G8.out.below h2); have H8 := hide (H7.out.trans (h2.mono H7.out.size)); clear h1 h2 g8 CS3)
            | (go_at_call 19; refine (CE2.out _ _ _ _ _ G9.out G10.out).mono ?_; rintro e w9 ⟨rfl, h1⟩; have H9 := hide (H8.out.trans (h1.mono H8.out.size)); clear h1 CE2)
            | (go_at_call 9; refine (CW.out _ H9.out).mono ?_; rintro e wz ⟨rfl, hb4⟩))
          go_ret
          exact ⟨rfl, H9.out.trans (hb4.mono H9.out.size)⟩
        · obtain ⟨e0, hP⟩ := scR_bad hS2 hE
          rw [size_l] at hP
          have hn0 : n2 = 0 := by rw [← HU2.out, e0]; rfl
          subst hn0
          have hPi : (P2 : Int) < (s.size : Int) := by omega
          clear hS2 e0 hP
          go_wp2_with (first
            | (go_at_call 14; refine CC1.out.mono ?_; rintro e w1 ⟨a1, c1, rfl, h1, h2⟩; have G1 := hide h1; have H1 := hide (H0.out.trans (h2.mono H0.out.size)); clear h1 h2 CC1)
            | (go_at_call 15; refine (CP1.out _ _ _ H1.out G1.out).mono ?_; rintro e w2 ⟨rfl, h1⟩; have HX := hide (H1.out.trans (h1.mono H1.out.size)); clear h1 CP1)
            | (go_at_call 10; refine (CS2.out _ HX.out).mono ?_; rintro e w5 ⟨v5, rfl, h1, h2⟩; obtain ⟨a5, c5, rfl, g5⟩ := trow_g HU2.out h1; have G5 := hide g5; have H5 := hide (HX.out.trans (h2.mono HX.out.size)); clear h1 h2 g5 CS2)
            | (go_at_call 9; refine (CW.out _ H5.out).mono ?_; rintro e wz ⟨rfl, hb4⟩))
          go_ret
          exact ⟨rfl, H5.out.trans (hb4.mono H5.out.size)⟩
      · rw [hok] at CP1
        simp only [if_true] at CP1
        obtain ⟨us1, hs1, hn1⟩ := scR_print hok
        have hp1 := prL_len hok
        have hal1 := galike hn1
        have hl1 : us1.length = n := by
          have := congrArg List.length hn1
          rw [List.length_map, List.length_map] at this
          omega
        have HU1 := hide hl1
        have hzz := size_m (ts.flatMap txT)
        have hml := mk_l (ts.flatMap txT)
        generalize (⟨(ts.flatMap txT).toArray⟩ : ByteArray) = ZT at CP1 hzz hml
        have CS1 := hide (fun w' (hb : Below w.heap.size w w') => scan_any ZT w' (HG.out.below hb) (HM.out.below hb) (by omega))
        rw [hml, hs1] at CS1
        have CE1 := hide (fun a' c' w' (hb : Below w.heap.size w w') (h : GLs w' a' (us1.map tgOf)) => gsame_any a' a c' c n (us1.map tgOf) ts w' (by rw [List.length_map]; exact hl1) (by omega) h (HI.out.lst.below hb) hal1)
        clear hbb h0 CL hz h4 hs hln hok hs1 hn1 hp1 hal1 hl1 hzz hml
        by_cases hE : E2 = 0
        · subst hE
          obtain ⟨ok2, sz2⟩ := scR_ok2 hS2 rfl
          rw [size_l] at sz2
          have hn2 : (us2.map tgOf).length = n2 := by rw [List.length_map]; exact HU2.out
          have CC2 := hide (fun a' c' w' (h : GLs w' a' (us2.map tgOf)) => rcopy_any a' n2 c' (us2.map tgOf) w' hn2 (by omega) (fun t ht => by
            have h1 := (szL_m (by omega) t ht).2
            omega) h)
          obtain ⟨us3, hs3, hn3⟩ := scR_print ok2
          have hp2 := prL_len ok2
          have CP2 := hide (fun a' c' w' (hb : Below w.heap.size w w') (h : GLs w' a' (us2.map tgOf)) => print_any a' c' n2 (us2.map tgOf) w' (HG.out.below hb) hn2 (by omega) h (fun t ht => (szL_m (by omega) t ht).1) (by omega))
          have hal2 := galike hn3
          have hl3 : us3.length = n2 := by
            have := congrArg List.length hn3
            rw [List.length_map, List.length_map] at this
            omega
          have HU3 := hide hl3
          unfold prV at CP2
          rw [ok2] at CP2
          simp only [if_true] at CP2
          have hzz := size_m ((us2.map tgOf).flatMap txT)
          have hml := mk_l ((us2.map tgOf).flatMap txT)
          generalize (⟨((us2.map tgOf).flatMap txT).toArray⟩ : ByteArray) = ZU at CP2 hzz hml
          have CS3 := hide (fun w' (hb : Below w.heap.size w w') => scan_any ZU w' (HG.out.below hb) (HM.out.below hb) (by omega))
          rw [hml, hs3] at CS3
          have CE2 := hide (fun a' b' ca cb w' (h1 : GLs w' a' (us3.map tgOf)) (h2 : GLs w' b' (us2.map tgOf)) => gsame_any a' b' ca cb n2 (us3.map tgOf) (us2.map tgOf) w' (by rw [List.length_map]; exact hl3) (by omega) h1 h2 hal2)
          clear hS2 ok2 sz2 hn2 hs3 hn3 hp2 hal2 hl3 hzz hml
          go_wp2_with (first
            | (go_at_call 14; refine CC1.out.mono ?_; rintro e w1 ⟨a1, c1, rfl, h1, h2⟩; have G1 := hide h1; have H1 := hide (H0.out.trans (h2.mono H0.out.size)); clear h1 h2 CC1)
            | (go_at_call 15; refine (CP1.out _ _ _ H1.out G1.out).mono ?_; rintro e w2 ⟨rfl, h1⟩; have H2 := hide (H1.out.trans (h1.mono H1.out.size)); clear h1 CP1)
            | (go_at_call 10; refine (CS1.out _ H2.out).mono ?_; rintro e w3 ⟨v3, rfl, h1, h2⟩; obtain ⟨a3, c3, rfl, g3⟩ := trow_g HU1.out h1; have G3 := hide g3; have H3 := hide (H2.out.trans (h2.mono H2.out.size)); clear h1 h2 g3 CS1)
            | (go_at_call 19; refine (CE1.out _ _ _ H3.out G3.out).mono ?_; rintro e w4 ⟨rfl, h1⟩; have HX := hide (H3.out.trans (h1.mono H3.out.size)); clear h1 CE1)
            | (go_at_call 10; refine (CS2.out _ HX.out).mono ?_; rintro e w5 ⟨v5, rfl, h1, h2⟩; obtain ⟨a5, c5, rfl, g5⟩ := trow_g HU2.out h1; have G5 := hide g5; have H5 := hide (HX.out.trans (h2.mono HX.out.size)); clear h1 h2 g5 CS2)
            | (go_at_call 14; refine (CC2.out _ _ _ G5.out).mono ?_; rintro e w6 ⟨a6, c6, rfl, h1, h2⟩; have G6 := hide h1; have G7 := hide (G5.out.below h2); have H6 := hide (H5.out.trans (h2.mono H5.out.size)); clear h1 h2 CC2)
            | (go_at_call 15; refine (CP2.out _ _ _ H6.out G6.out).mono ?_; rintro e w7 ⟨rfl, h1⟩; have G8 := hide (G7.out.below h1); have H7 := hide (H6.out.trans (h1.mono H6.out.size)); clear h1 CP2)
            | (go_at_call 10; refine (CS3.out _ H7.out).mono ?_; rintro e w8 ⟨v8, rfl, h1, h2⟩; obtain ⟨a8, c8, rfl, g8⟩ := trow_g HU3.out h1; have G9 := hide g8; have G10 := hide (G8.out.below h2); have H8 := hide (H7.out.trans (h2.mono H7.out.size)); clear h1 h2 g8 CS3)
            | (go_at_call 19; refine (CE2.out _ _ _ _ _ G9.out G10.out).mono ?_; rintro e w9 ⟨rfl, h1⟩; have H9 := hide (H8.out.trans (h1.mono H8.out.size)); clear h1 CE2)
            | (go_at_call 9; refine (CW.out _ H9.out).mono ?_; rintro e wz ⟨rfl, hb4⟩))
          go_ret
          exact ⟨rfl, H9.out.trans (hb4.mono H9.out.size)⟩
        · obtain ⟨e0, hP⟩ := scR_bad hS2 hE
          rw [size_l] at hP
          have hn0 : n2 = 0 := by rw [← HU2.out, e0]; rfl
          subst hn0
          have hPi : (P2 : Int) < (s.size : Int) := by omega
          clear hS2 e0 hP
          go_wp2_with (first
            | (go_at_call 14; refine CC1.out.mono ?_; rintro e w1 ⟨a1, c1, rfl, h1, h2⟩; have G1 := hide h1; have H1 := hide (H0.out.trans (h2.mono H0.out.size)); clear h1 h2 CC1)
            | (go_at_call 15; refine (CP1.out _ _ _ H1.out G1.out).mono ?_; rintro e w2 ⟨rfl, h1⟩; have H2 := hide (H1.out.trans (h1.mono H1.out.size)); clear h1 CP1)
            | (go_at_call 10; refine (CS1.out _ H2.out).mono ?_; rintro e w3 ⟨v3, rfl, h1, h2⟩; obtain ⟨a3, c3, rfl, g3⟩ := trow_g HU1.out h1; have G3 := hide g3; have H3 := hide (H2.out.trans (h2.mono H2.out.size)); clear h1 h2 g3 CS1)
            | (go_at_call 19; refine (CE1.out _ _ _ H3.out G3.out).mono ?_; rintro e w4 ⟨rfl, h1⟩; have HX := hide (H3.out.trans (h1.mono H3.out.size)); clear h1 CE1)
            | (go_at_call 10; refine (CS2.out _ HX.out).mono ?_; rintro e w5 ⟨v5, rfl, h1, h2⟩; obtain ⟨a5, c5, rfl, g5⟩ := trow_g HU2.out h1; have G5 := hide g5; have H5 := hide (HX.out.trans (h2.mono HX.out.size)); clear h1 h2 g5 CS2)
            | (go_at_call 9; refine (CW.out _ H5.out).mono ?_; rintro e wz ⟨rfl, hb4⟩))
          go_ret
          exact ⟨rfl, H5.out.trans (hb4.mono H5.out.size)⟩
    · have h3' : (20000 : Int) < (s.size : Int) := by omega
      clear hbb h0 CL hz h3
      go_wp2_with (go_at_call 9; refine (CW.out _ H0.out).mono ?_; rintro e w4 ⟨rfl, hb4⟩)
      go_ret
      exact ⟨rfl, H0.out.trans (hb4.mono H0.out.size)⟩
end Go.Proofs.YtpmdekhjodhdmaaDoor.K17
