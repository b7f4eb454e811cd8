/-
  The law CmapSends, walked (made by c11ls.py).
-/
import Derived.Test.YtkmmphpaaahajaaC11Ls
import Derived.BigQuiet
namespace Go.Proofs.Ytkmmphpaaahajaa
open Go.ChangeShapes Go.WideShapes Go.RowKit Go.Deep
set_option linter.unusedVariables false
set_option linter.unusedSimpArgs false

theorem cat9 (a b : ByteArray) (n m : Nat) (ha : a.size = n) (hb : b.size = m) (h : n + m ≤ 100000) : ∃ P : ByteArray, (∀ w, (Op.stringOp .add a b).run Try.prog w = .ok (.string P) w) ∧ P.data.toList = a.data.toList ++ b.data.toList ∧ P.size = n + m :=
  ⟨a ++ b, fun w => run_string_add_sum w a b (by omega), by rw [ByteArray.data_append, Array.toList_append], by rw [ByteArray.size_append, ha, hb]⟩
theorem bs_eq {P : ByteArray} {l : List UInt8} (h : P.data.toList = l) : P = ⟨l.toArray⟩ := by
  cases P with | mk d => cases d with | mk t => simp at h; rw [h]
theorem fr_let (x : Int) (h0 : 0 ≤ x) (h1 : x ≤ 2147483647) : ∃ T : ByteArray, (∀ w, Calls Try.prog 18 #[.int .i64 x] w fun e w' => e = .returned (.string T) ∧ Below w.heap.size w w') ∧ T.data.toList = t4 x ∧ T.size = 4 :=
  ⟨⟨(t4 x).toArray⟩, fun w => lfour_any x w h0 h1, by simp, rfl⟩
/- groups that were gone through, and where the next may begin -/
structure GV (gs : List Ch) (a : Int) : Prop where
  each : ∀ x ∈ gs, GI x ∧ x.l - x.f ≤ 299 ∧ x.l < a
  rise : ∀ i, i + 1 < gs.length → (gs.getD i c0).l < (gs.getD (i + 1) c0).f
  lo : 0 ≤ a
  hi : a ≤ 1114112
theorem GV.nil : GV [] 0 := ⟨fun x h => (by cases h), fun i h => (by simp at h), by omega, by omega⟩
theorem GV.snoc {gs : List Ch} {a f l g : Int} (h : GV gs a) (h1 : a ≤ f) (h2 : f ≤ l) (h3 : l ≤ f + 299) (h4 : l ≤ 1114111) (h5 : 0 ≤ g) (h6 : g ≤ 3000) : GV (gs ++ [⟨f, l, g⟩]) (l + 1) := by
  have := h.lo
  refine ⟨fun x hx => ?_, fun i hi => ?_, by omega, by omega⟩
  · rcases List.mem_append.1 hx with hx | hx
    · obtain ⟨p, q, r⟩ := h.each x hx
      exact ⟨p, q, by omega⟩
    · simp at hx; subst hx
      exact ⟨⟨by simp only; omega, by simp only; omega, by simp only; omega, by simp only; omega, by simp only; omega⟩, by simp only; omega, by simp only; omega⟩
  · have hl : i < gs.length := by simp at hi; omega
    rcases Nat.lt_or_ge (i + 1) gs.length with h' | h'
    · rw [getD_left _ _ _ hl, getD_left _ _ _ h']; exact h.rise i h'
    · have e : i + 1 = gs.length := by simp at hi; omega
      rw [getD_left _ _ _ hl, e, getD_last]
      have hm : gs.getD i c0 ∈ gs := by rw [List.getD_eq_getElem?_getD, List.getElem?_eq_getElem hl]; simp
      have := (h.each _ hm).2.2
      simp only; omega
def hd12 : List UInt8 := [0, 0, 0, 1, 0, 0, 0, 4, 0, 0, 0, 12]
/- what is read of the law's table -/
theorem snd_red (gs : List Ch) (a : Int) (hl : gs.length ≤ 60) (h : GV gs a) : ∃ cs, redV (hd12 ++ s12 gs) 4096 = some cs ∧ gooB cs 4096 = true ∧ cs.length ≤ 60 ∧ ∀ c, finV cs c = sndV gs c := by
  obtain ⟨cs, h1, h2, h3, h4⟩ := snd_all gs a hl h.each h.rise h.lo
  refine ⟨cs, ?_, h2.good (by omega), by omega, h4⟩
  rw [tab_red hd12 gs rfl rfl (by kernel_rfl) (by kernel_rfl) (by kernel_rfl) (by omega) (fun i hi => (h.each _ (by rw [List.getD_eq_getElem?_getD, List.getElem?_eq_getElem hi]; simp)).1) h.rise]
  exact h1
theorem flat_snoc (gs : List Ch) (f l g : Int) : (gs ++ [(⟨f, l, g⟩ : Ch)]).flatMap g3 = gs.flatMap g3 ++ (t4 f ++ t4 l ++ t4 g) := by
  rw [List.flatMap_append]; simp [g3_three]
set_option maxRecDepth 8000 in
set_option maxHeartbeats 16000000 in
theorem sends_walk (a1 : Option Addr) (n1 k1 : Nat) (z1 : List Int) (a2 : Option Addr) (n2 k2 : Nat) (z2 : List Int) (a3 : Option Addr) (n3 k3 : Nat) (z3 : List Int) (C : Int) (w : World) (h1 : LIn w a1 n1 z1) (h2 : LIn w a2 n2 z2) (h3 : LIn w a3 n3 z3) (hC : R64 C) :
    Calls Try.prog 7 #[.agg #[.slice a1 n1 k1, .slice a2 n2 k2, .slice a3 n3 k3, .int .i64 C]] w fun e w' => e = .returned (.bool true) ∧ Below w.heap.size w w' := by
  have CW := hide wakes_any
  have H1 := hide h1
  have H2 := hide h2
  have H3 := hide h3
  have HCC := hide hC
  have HB0 := hide ((Below.refl w.heap.size w).alloc (Nat.le_refl _) (.cells #[.slice a1 n1 k1, .slice a2 n2 k2, .slice a3 n3 k3, .int .i64 C] 42))
  clear h1 h2 h3 hC
  go_enter Try.func7, Try.ntmps7
  go_wp2_with fail
  go_quiet (fail)
  go_wp2_with fail
  go_loopw [7, 8, 9, 10, 11] (fun vb va vw vn vi wr => ∃ (k : Nat) (gs : List Ch) (at_ : Int), vi = .int .i64 k ∧ vn = .int .i64 k ∧ va = .int .i64 at_ ∧ vw = .int .i64 (sndV gs C) ∧ Hid (k ≤ 60 ∧ gs.length = k ∧ GV gs at_ ∧ BRow wr w.heap.size vb (gs.flatMap g3) ∧ Below w.heap.size w wr)) (fun _ _ _ _ vi _ => 60 - (intOf vi).toNat)
  case atStart => exact ⟨0, [], 0, rfl, rfl, rfl, rfl, hide ⟨by omega, rfl, GV.nil, BRow.nil _ _, below_drewN HB0.out _⟩⟩
  case round =>
    obtain ⟨k, gs, at_, rfl, rfl, rfl, rfl, HV⟩ := hrel
    obtain ⟨hk, hgl, hgv, hrow, hbw⟩ := HV.out
    have hk0 : (0 : Int) ≤ (k : Int) := by omega
    have hk6 : (k : Int) ≤ 60 := by omega
    have HGL := hide hgl
    have HGV := hide hgv
    have HRW := hide hrow
    have HBW := hide hbw
    have at0 := hgv.lo
    have at1 := hgv.hi
    clear HV hgl hgv hrow HB0
    obtain ⟨WN, hWN⟩ : ∃ WN, sndV gs C = WN := ⟨_, rfl⟩
    rw [hWN]
    have HWN := hide hWN
    clear hWN
    by_cases hgo : k < n1 ∧ k < n2 ∧ k < n3 ∧ k < 60
    case neg =>
      have way : (¬ k < n1) ∨ (k < n1 ∧ ¬ k < n2) ∨ (k < n1 ∧ k < n2 ∧ ¬ k < n3) ∨ (k < n1 ∧ k < n2 ∧ k < n3 ∧ ¬ k < 60) := by omega
      obtain ⟨cs, hr1, hr2, hr3, hr4⟩ := snd_red gs at_ (by rw [HGL.out]; exact hk) HGV.out
      obtain ⟨FV, hFV⟩ : ∃ FV : Int → ByteArray, ∀ x, FV x = ⟨(t4 x).toArray⟩ := ⟨_, fun _ => rfl⟩
      have CF : Hid (∀ (x : Int) (w : World), 0 ≤ x → x ≤ 2147483647 → Calls Try.prog 18 #[.int .i64 x] w fun e w' => e = .returned (.string (FV x)) ∧ Below w.heap.size w w') := hide (fun x w h0 h1 => by rw [hFV x]; exact lfour_any x w h0 h1)
      have hsz : ∀ x, (FV x).size = 4 := fun x => by rw [hFV x]; rfl
      have hfl : (gs.flatMap g3).length = 12 * k := by rw [g3_len, HGL.out]
      obtain ⟨BS, hBS⟩ : ∃ BS : ByteArray, (⟨(gs.flatMap g3).toArray⟩ : ByteArray) = BS := ⟨_, rfl⟩
      have hbs : BS.size = 12 * k := by rw [← hBS, ← hfl]; simp [ByteArray.size]
      have hbd : BS.data.toList = gs.flatMap g3 := by rw [← hBS]
      obtain ⟨P1, r1, x1, s1⟩ := cat9 ⟨#[0, 0, 0, 1, 0, 0, 0, 4, 0, 0, 0, 12, 0, 12, 0, 0]⟩ (FV (16 + 12 * (k : Int))) 16 4 rfl (hsz _) (by omega)
      obtain ⟨P2, r2, x2, s2⟩ := cat9 P1 (FV 0) 20 4 s1 (hsz _) (by omega)
      obtain ⟨P3, r3, x3, s3⟩ := cat9 P2 (FV (k : Int)) 24 4 s2 (hsz _) (by omega)
      obtain ⟨TT, r4, x4, s4⟩ := cat9 P3 BS 28 (12 * k) s3 hbs (by omega)
      have htt : TT.data.toList = hd12 ++ s12 gs := by
        rw [x4, x3, x2, x1, hFV, hFV, hFV, hbd]
        unfold s12 fo hd12
        rw [HGL.out]
        simp [List.append_assoc]
      have CR := read_any TT 4096
      rw [htt, hr1] at CR
      have CR := hide (fun w => CR w (by omega) (by omega) (by omega))
      have hsm := good_small hr2 (by omega)
      have HRC : Hid (∀ i, i < cs.length → RC (cs.getD i c0)) := hide (fun i hi => by
        have := hsm.2 i hi
        unfold RC R64
        omega)
      have CFI := hide (fun a c w (h : CLst w a cs) => find_any a cs cs.length c C w rfl (by omega) HCC.out HRC.out h)
      have hfc : finV cs C = WN := by rw [hr4 C, HWN.out]
      rw [hfc] at CFI
      have CGO := hide (fun a c w (h : CLst w a cs) => good_any a cs cs.length c 4096 w rfl (by omega) ⟨by omega, by omega⟩ h)
      rw [hr2] at CGO
      have KT := hide (fun (u : World) (hu : Below wr.heap.size wr u) => (show (convert 43 9 u7).run Try.prog u = .ok (.string BS) u by rw [← hBS]; exact BRow.text (HRW.out.later hu)))
      have HVV := hide (Below.refl wr.heap.size wr)
      have hcl : (cs.length : Int) ≤ 60 := by omega
      have HLE := hide (show cs.length ≤ 60 from hr3)
      obtain ⟨NL, hNL⟩ : ∃ NL, cs.length = NL := ⟨_, rfl⟩
      have kt0 := KT.out wr (Below.refl _ _)
      clear hr1 hr2 hr3 hr4 hFV hsz hfl hBS hbs hbd x1 x2 x3 x4 s1 s2 s3 s4 htt hsm hfc hgo hbw hNL
      have kk : IntKind.i64.wrap (12 * (k : Int)) = 12 * (k : Int) := by rw [IntKind.wrap_i64]; omega
      have kk2 : IntKind.i64.wrap (16 + 12 * (k : Int)) = 16 + 12 * (k : Int) := by rw [IntKind.wrap_i64]; omega
      have HKK := hide (And.intro kk kk2)
      clear kk kk2
      rcases way with c1 | ⟨c1, c2⟩ | ⟨c1, c2, c3⟩ | ⟨c1, c2, c3, c4⟩
      all_goals
        have i1 : ((k : Int) < (n1 : Int)) ↔ k < n1 := by omega
        have i2 : ((k : Int) < (n2 : Int)) ↔ k < n2 := by omega
        have i3 : ((k : Int) < (n3 : Int)) ↔ k < n3 := by omega
        have i4 : ((k : Int) < 60) ↔ k < 60 := by omega
        go_wp2_with fail
        have kk := HKK.out.1
        have kk2 := HKK.out.2
        go_region_held3 (fun u => (convert 43 9 u7).run Try.prog u = .ok (.string BS) u) (exact KT.out _ (below_d HVV.out (Below.refl _ _) rfl rfl rfl rfl)) ((go_at_call 18; refine (CF.out _ _ (by omega) (by omega)).mono ?_; rintro e wy ⟨rfl, hy⟩; replace HVV := hide (below_d HVV.out hy rfl rfl rfl rfl); clear hy))
        go_wp2_with fail
        refine (CR.out _).mono ?_
        rintro e w5 ⟨v5, rfl, hr5, hb5⟩
        obtain ⟨a5, c5, rfl, hl5⟩ := hr5.lst
        have HL5 := hide hl5
        have HB5 := hide (HBW.out.trans ((below_d HVV.out hb5 rfl rfl rfl rfl).mono HBW.out.size))
        clear hr5 hl5 hb5
        go_wp2_with fail
        refine (CFI.out _ _ _ HL5.out).mono ?_
        rintro e w6 ⟨rfl, hb6⟩
        have HB6 := hide (HB5.out.trans (hb6.mono HB5.out.size))
        have HL6 := hide (HL5.out.below hb6)
        clear hb6
        go_wp2_with fail
        refine (CGO.out _ _ _ HL6.out).mono ?_
        rintro e w7 ⟨rfl, hb7⟩
        have HB7 := hide (HB6.out.trans (hb7.mono HB6.out.size))
        clear hb7
        go_wp2_with fail
        refine (CW.out _).mono ?_
        rintro e w8 ⟨rfl, hb8⟩
        have HB8 := hide (HB7.out.trans (hb8.mono HB7.out.size))
        clear hb8
        go_wp2_with fail
        go_ret
        exact ⟨rfl, HB8.out⟩
    obtain ⟨lt1, lt2, lt3, lt4⟩ := hgo
    have lt1' : (k : Int) < (n1 : Int) := by omega
    have lt2' : (k : Int) < (n2 : Int) := by omega
    have lt3' : (k : Int) < (n3 : Int) := by omega
    have lt4' : (k : Int) < 60 := by omega
    rcases H1.out.lst with hz | ⟨b1, o1, rfl, hw1, hc1⟩
    · have := H1.out.len; rw [hz] at this; simp at this; omega
    have y1 := (hbw.cell (p := ⟨b1, o1 + k, none⟩) hw1).trans (hc1 k (by have := H1.out.len; omega))
    have hl1 : b1 < wr.heap.size := Nat.lt_of_lt_of_le hw1 hbw.size
    rcases H2.out.lst with hz | ⟨b2, o2, rfl, hw2, hc2⟩
    · have := H2.out.len; rw [hz] at this; simp at this; omega
    have y2 := (hbw.cell (p := ⟨b2, o2 + k, none⟩) hw2).trans (hc2 k (by have := H2.out.len; omega))
    have hl2 : b2 < wr.heap.size := Nat.lt_of_lt_of_le hw2 hbw.size
    rcases H3.out.lst with hz | ⟨b3, o3, rfl, hw3, hc3⟩
    · have := H3.out.len; rw [hz] at this; simp at this; omega
    have y3 := (hbw.cell (p := ⟨b3, o3 + k, none⟩) hw3).trans (hc3 k (by have := H3.out.len; omega))
    have hl3 : b3 < wr.heap.size := Nat.lt_of_lt_of_le hw3 hbw.size
    clear hc1 hc2 hc3
    generalize z1.getD k 0 = gap at *
    generalize z2.getD k 0 = lon at *
    generalize z3.getD k 0 = gly at *
    clear hbw
    by_cases c0 : gap < 0
    · have d0 : decide (gap < 0) = true := by simpa using c0
      go_wp2_with fail
      go_quiet (fail)
      go_wp2_with fail
      refine (CW.out _).mono ?_
      rintro e w1 ⟨rfl, hb1⟩
      have HB1 := hide ((below_drewN HBW.out nq).trans (hb1.mono HBW.out.size))
      clear hb1
      go_wp2_with fail
      go_ret
      exact ⟨rfl, HB1.out⟩
    have d0 : decide (gap < 0) = false := by simpa using c0
    by_cases c1 : 20000 < gap
    · have d1 : decide (20000 < gap) = true := by simpa using c1
      go_wp2_with fail
      go_quiet (fail)
      go_wp2_with fail
      refine (CW.out _).mono ?_
      rintro e w1 ⟨rfl, hb1⟩
      have HB1 := hide ((below_drewN HBW.out nq).trans (hb1.mono HBW.out.size))
      clear hb1
      go_wp2_with fail
      go_ret
      exact ⟨rfl, HB1.out⟩
    have d1 : decide (20000 < gap) = false := by simpa using c1
    by_cases c2 : lon < 1
    · have d2 : decide (lon < 1) = true := by simpa using c2
      go_wp2_with fail
      go_quiet (fail)
      go_wp2_with fail
      refine (CW.out _).mono ?_
      rintro e w1 ⟨rfl, hb1⟩
      have HB1 := hide ((below_drewN HBW.out nq).trans (hb1.mono HBW.out.size))
      clear hb1
      go_wp2_with fail
      go_ret
      exact ⟨rfl, HB1.out⟩
    have d2 : decide (lon < 1) = false := by simpa using c2
    by_cases c3 : 300 < lon
    · have d3 : decide (300 < lon) = true := by simpa using c3
      go_wp2_with fail
      go_quiet (fail)
      go_wp2_with fail
      refine (CW.out _).mono ?_
      rintro e w1 ⟨rfl, hb1⟩
      have HB1 := hide ((below_drewN HBW.out nq).trans (hb1.mono HBW.out.size))
      clear hb1
      go_wp2_with fail
      go_ret
      exact ⟨rfl, HB1.out⟩
    have d3 : decide (300 < lon) = false := by simpa using c3
    by_cases c4 : gly < 0
    · have d4 : decide (gly < 0) = true := by simpa using c4
      go_wp2_with fail
      go_quiet (fail)
      go_wp2_with fail
      refine (CW.out _).mono ?_
      rintro e w1 ⟨rfl, hb1⟩
      have HB1 := hide ((below_drewN HBW.out nq).trans (hb1.mono HBW.out.size))
      clear hb1
      go_wp2_with fail
      go_ret
      exact ⟨rfl, HB1.out⟩
    have d4 : decide (gly < 0) = false := by simpa using c4
    by_cases c5 : 3000 < gly
    · have d5 : decide (3000 < gly) = true := by simpa using c5
      go_wp2_with fail
      go_quiet (fail)
      go_wp2_with fail
      refine (CW.out _).mono ?_
      rintro e w1 ⟨rfl, hb1⟩
      have HB1 := hide ((below_drewN HBW.out nq).trans (hb1.mono HBW.out.size))
      clear hb1
      go_wp2_with fail
      go_ret
      exact ⟨rfl, HB1.out⟩
    have d5 : decide (3000 < gly) = false := by simpa using c5
    obtain ⟨f, hf⟩ : ∃ f, at_ + gap = f := ⟨_, rfl⟩
    obtain ⟨fl, hfl⟩ : ∃ fl, f + lon = fl := ⟨_, rfl⟩
    have e1 : IntKind.i64.wrap (at_ + gap) = f := by rw [IntKind.wrap_i64]; omega
    have e2 : IntKind.i64.wrap (f + lon) = fl := by rw [IntKind.wrap_i64]; omega
    by_cases c6 : 1114112 < fl
    · have d6 : decide (1114112 < fl) = true := by simpa using c6
      go_wp2_with fail
      go_quiet (fail)
      go_wp2_with fail
      refine (CW.out _).mono ?_
      rintro e w1 ⟨rfl, hb1⟩
      have HB1 := hide ((below_drewN HBW.out nq).trans (hb1.mono HBW.out.size))
      clear hb1
      go_wp2_with fail
      go_ret
      exact ⟨rfl, HB1.out⟩
    have d6 : decide (1114112 < fl) = false := by simpa using c6
    have f0 : 0 ≤ f := by omega
    have f1 : f ≤ 1114112 := by omega
    have l0 : 0 ≤ gly := by omega
    have l1 : gly ≤ 3000 := by omega
    have fl0 : 1 ≤ fl := by omega
    have fl1 : fl ≤ 1114112 := by omega
    obtain ⟨la, hla⟩ : ∃ la, fl - 1 = la := ⟨_, rfl⟩
    have la0 : 0 ≤ la := by omega
    have la1 : la ≤ 1114111 := by omega
    have hgv2 := HGV.out.snoc (f := f) (l := la) (g := gly) (by omega) (by omega) (by omega) (by omega) l0 l1
    have HGV2 := hide hgv2
    obtain ⟨FV, hFV⟩ : ∃ FV : Int → ByteArray, ∀ x, FV x = ⟨(t4 x).toArray⟩ := ⟨_, fun _ => rfl⟩
    have CF : Hid (∀ (x : Int) (w : World), 0 ≤ x → x ≤ 2147483647 → Calls Try.prog 18 #[.int .i64 x] w fun e w' => e = .returned (.string (FV x)) ∧ Below w.heap.size w w') := hide (fun x w h0 h1 => by rw [hFV x]; exact lfour_any x w h0 h1)
    have hsz : ∀ x, (FV x).size = 4 := fun x => by rw [hFV x]; rfl
    obtain ⟨G1, r1, x4, s4⟩ := cat9 (FV f) (FV la) 4 4 (hsz f) (hsz la) (by omega)
    obtain ⟨G2, r2, x5, s5⟩ := cat9 G1 (FV gly) 8 4 s4 (hsz gly) (by omega)
    have hx5 : G2.data.toList = t4 f ++ t4 la ++ t4 gly := by rw [x5, x4, hFV, hFV, hFV]
    have HX5 := hide hx5
    have HFE := hide (show la + 1 = fl by omega)
    have HLN : Hid ((gs.flatMap g3).length ≤ 720) := hide (by rw [g3_len, HGL.out]; omega)
    clear hgv2 x4 x5 hx5 s4 s5 c0 c1 c2 c3 c4 c5 c6 hFV hsz
    go_wp2_with fail
    go_quiet (fail)
    go_wp2_with fail
    obtain ⟨V, hV⟩ : ∃ V, wr.drewN nq = V := ⟨_, rfl⟩
    rw [hV]
    have HBV := hide (show Below w.heap.size w V by rw [← hV]; exact below_drewN HBW.out _)
    have HRV := hide (show BRow V w.heap.size u7 (gs.flatMap g3) by rw [← hV]; exact HRW.out)
    have v3 : V.cell? ⟨b3, o3 + k, none⟩ = some (.int .i64 gly) := by rw [← hV]; exact y3
    have vl3 : b3 < V.heap.size := by rw [← hV]; exact hl3
    have KS := hide (fun (u : World) (hu : Below V.heap.size V u) => show b3 < u.heap.size ∧ u.cell? ⟨b3, o3 + k, none⟩ = some (.int .i64 gly) from ⟨Nat.lt_of_lt_of_le vl3 hu.size, (hu.cell (p := ⟨b3, _, none⟩) vl3).trans v3⟩)
    have HAP : Hid (∀ u, Below V.heap.size V u → ∃ v' w', (Builtin.append_ #[43, 9] 43 #[u7, .string G2]).run Try.prog u = .ok v' w' ∧ (BRow w' w.heap.size v' ((gs ++ [(⟨f, la, gly⟩ : Ch)]).flatMap g3) ∧ Below w.heap.size w w' ∧ w'.cell? ⟨b3, o3 + k, none⟩ = some (.int .i64 gly) ∧ b3 < w'.heap.size)) := hide (fun u hu => by
      have hBu : Below w.heap.size w u := HBV.out.trans (hu.mono HBV.out.size)
      have hg2s : G2.size ≤ 12 := by have := congrArg List.length HX5.out; rw [← Lib.size_eq] at this; rw [this]; simp [t4, t2]
      obtain ⟨v', w', r, hb', hk'⟩ := app_s3 (W := u) (B := w.heap.size) G2 (HRV.out.later hu) hBu.size (by have := HLN.out; omega)
      refine ⟨v', w', r, by rw [flat_snoc, ← HX5.out]; exact hb', hBu.trans hk'.below, ?_, ?_⟩
      · rw [hk'.below.cell (p := ⟨b3, _, none⟩) hw3]; exact (KS.out u hu).2
      · exact Nat.lt_of_lt_of_le (KS.out u hu).1 hk'.size)
    have HVV := hide (Below.refl V.heap.size V)
    clear hV y1 y2 y3 hl1 hl2 hl3 HRW
    go_region_held3 (fun u => b3 < u.heap.size ∧ u.cell? ⟨b3, o3 + k, none⟩ = some (.int .i64 gly)) (first | exact HP.out | exact KS.out _ (below_d HVV.out (Below.refl _ _) rfl rfl rfl rfl)) ((first | (go_at_call 18; refine (CF.out _ _ (by omega) (by omega)).mono ?_; rintro e wy ⟨rfl, hy⟩; replace HVV := hide (below_d HVV.out hy rfl rfl rfl rfl); clear hy) | (refine step_append_ex _ (by rfl) _ _ _ _ (by rfl) _ _ (by rfl) (by rfl) (HAP.out _ (below_d HVV.out (Below.refl _ _) rfl rfl rfl rfl)) ?_; rintro v4 w4 ⟨p1, p2, p3, p4⟩; have HP := hide (And.intro p4 p3); have HR4 := hide p1; have HB4 := hide p2; clear p1 p2 p3 p4)))
    go_wp2_with fail
    all_goals refine ⟨⟨k + 1, gs ++ [⟨f, la, gly⟩], la + 1, by go_num, by go_num, rfl, ?_, hide ⟨by omega, by rw [List.length_append, HGL.out]; rfl, HGV2.out, HR4.out, HB4.out⟩⟩, by simp [intOf]; omega⟩
    all_goals rw [sndV_snoc, HWN.out]
    all_goals first | rw [if_pos (by simp only; omega)] | rw [if_neg (by simp only; omega)]
end Go.Proofs.Ytkmmphpaaahajaa
