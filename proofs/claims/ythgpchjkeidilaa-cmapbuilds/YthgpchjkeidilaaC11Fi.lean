/-
  What cmap's Find and Good answer.
-/
import Derived.Test.YthgpchjkeidilaaC11F
namespace Go.Proofs.Ythgpchjkeidilaa
open Go.RowKit Go.Deep
set_option linter.unusedVariables false

theorem below_d {V a b x : World} (h : Below V.heap.size V a) (hx : Below b.heap.size b x) (e0 : b.os = a.os) (e1 : b.tape = a.tape) (e2 : b.output = a.output) (e3 : b.heap = a.heap) : Below V.heap.size V x :=
  h.trans ⟨hx.os.trans e0, hx.tape.trans e1, hx.output.trans e2, by rw [← e3]; exact hx.size, fun k hk => by rw [hx.block k (by rw [e3]; exact Nat.lt_of_lt_of_le hk h.size), e3]⟩
theorem wrap_u64 (n : Int) : IntKind.u64.wrap n = n % 18446744073709551616 := by
  simp only [IntKind.wrap, IntKind.bits, IntKind.signed]
  simp
set_option maxHeartbeats 1000000 in
theorem find_any (a : Option Addr) (cs : List Ch) (len cap : Nat) (c : Int) (w : World) (hl : cs.length = len) (hm : len ≤ 1073741824) (hc : R64 c) (hr : ∀ i, i < cs.length → RC (cs.getD i c0)) (hL : CLst w a cs) :
    Calls Try.prog 8 #[.slice a len cap, .int .i64 c] w fun e w' => e = .returned (.int .i64 (finV cs c)) ∧ Below w.heap.size w w' := by
  have hm' : (len : Int) ≤ 1073741824 := by omega
  have HL := hide hL
  have HN := hide hl
  have HR := hide hr
  have HC := hide hc
  clear hL hl hm hr hc
  go_enter Try.func8, Try.ntmps8
  go_wp2_with fail
  go_loopw [10] (fun vi wr => ∃ (k : Nat), vi = .int .i64 k ∧ Hid (k ≤ len ∧ finV cs c = finV (cs.drop k) c ∧ Below w.heap.size w wr)) (fun vi _ => len - (intOf vi).toNat)
  case atStart => exact ⟨0, rfl, hide ⟨by omega, rfl, Below.refl _ _⟩⟩
  case round =>
    obtain ⟨k, rfl, HV⟩ := hrel
    obtain ⟨hk, hv, hb⟩ := HV.out
    have hk0 : (0 : Int) ≤ (k : Int) := by omega
    have HB := hide hb
    have HF := hide hv
    clear HV hv
    by_cases hlt : k < len
    case neg =>
      have hlt' : ¬ (k : Int) < (len : Int) := by omega
      have E : Hid (finV cs c = 0) := hide (by rw [HF.out, List.drop_eq_nil_of_le (by have := HN.out; omega)]; rfl)
      clear HF hb
      go_wp2_with fail
      go_ret
      exact ⟨by rw [E.out]; rfl, HB.out⟩
    have hlt' : (k : Int) < (len : Int) := by omega
    rcases HL.out with hz | ⟨b, o, rfl, hbl, hcell⟩
    · have := HN.out; rw [hz] at this; simp at this; omega
    obtain ⟨z0, z1, z2⟩ := hcell k (by have := HN.out; omega)
    rw [← hb.cell (p := ⟨b, _, none⟩) hbl] at z0 z1 z2
    have zb : b < wr.heap.size := Nat.lt_of_lt_of_le hbl hb.size
    have HD := hide (HF.out.trans (by rw [dropC cs k (by have := HN.out; omega), finV_cons]))
    obtain ⟨⟨rf0, rf1⟩, ⟨rl0, rl1⟩, rg0, rg1⟩ := HR.out k (by have := HN.out; omega)
    obtain ⟨rc0, rc1⟩ := HC.out
    obtain ⟨x, hx⟩ : ∃ x, cs.getD k c0 = x := ⟨_, rfl⟩
    rw [hx] at z0 z1 z2 HD rf0 rf1 rl0 rl1 rg0 rg1
    clear hx hcell
    obtain ⟨f, l, g⟩ := x
    simp only at z0 z1 z2 rf0 rf1 rl0 rl1 rg0 rg1
    have HB2 := hide (HB.out.alloc HB.out.size (.cells #[.int .i64 f, .int .i64 l, .int .i64 g] 31))
    by_cases q1 : c < f
    · have E : Hid (finV cs c = finV (cs.drop (k + 1)) c) := hide (by rw [HD.out, if_neg]; simp [hit]; omega)
      clear HD HF rf0 rf1 rl0 rl1 rg0 rg1 rc0 rc1 hb
      go_wp2_with fail
      go_roundw
      case rel => exact ⟨k + 1, by go_num, hide ⟨by omega, E.out, HB2.out⟩⟩
      case measure => simp [intOf]; omega
    have q1' : decide (c < f) = false := by simp; omega
    by_cases q2 : l < c
    · have E : Hid (finV cs c = finV (cs.drop (k + 1)) c) := hide (by rw [HD.out, if_neg]; simp [hit]; omega)
      clear HD HF rf0 rf1 rl0 rl1 rg0 rg1 rc0 rc1 hb q1
      go_wp2_with fail
      go_roundw
      case rel => exact ⟨k + 1, by go_num, hide ⟨by omega, E.out, HB2.out⟩⟩
      case measure => simp [intOf]; omega
    have q2' : decide (l < c) = false := by simp; omega
    have E0 := hide (show finV cs c = hitV ⟨f, l, g⟩ c by rw [HD.out, if_pos]; simp [hit]; omega)
    obtain ⟨CU, u1⟩ : ∃ y, IntKind.u64.wrap c = y := ⟨_, rfl⟩
    obtain ⟨FU, u2⟩ : ∃ y, IntKind.u64.wrap f = y := ⟨_, rfl⟩
    obtain ⟨d, hd⟩ : ∃ y, c - f = y := ⟨_, rfl⟩
    have d0 : 0 ≤ d := by omega
    have d1 : d ≤ 18446744073709551615 := by omega
    have u3 : IntKind.u64.wrap (CU - FU) = d := by rw [← u1, ← u2, ← hd]; rw [wrap_u64, wrap_u64, wrap_u64]; omega
    have EV : Hid (hitV ⟨f, l, g⟩ c = if 1 ≤ g + d ∧ g + d ≤ 4095 then g + d else 0) := hide (by unfold hitV; simp only; rw [show g + c - f = g + d by omega])
    clear HD HF hb q1 q2 rf0 rf1 rl0 rl1 rc0 rc1
    by_cases q3 : 4095 < g
    · have E : Hid (finV cs c = 0) := hide (by rw [E0.out, EV.out, if_neg (by omega)])
      clear E0 EV rg0 rg1 hd
      go_wp2_with fail
      go_ret
      exact ⟨by rw [E.out]; rfl, HB2.out⟩
    have q3' : decide (4095 < g) = false := by simp; omega
    obtain ⟨GU, u4⟩ : ∃ y, IntKind.u64.wrap g = y := ⟨_, rfl⟩
    obtain ⟨r, hr⟩ : ∃ y, 4095 - g = y := ⟨_, rfl⟩
    have u5 : IntKind.u64.wrap (4095 - GU) = r := by rw [← u4, ← hr]; rw [wrap_u64, wrap_u64]; omega
    by_cases q4 : r < d
    · have E : Hid (finV cs c = 0) := hide (by rw [E0.out, EV.out, if_neg (by omega)])
      clear E0 EV rg0 rg1 hd hr q3
      go_wp2_with fail
      go_ret
      exact ⟨by rw [E.out]; rfl, HB2.out⟩
    have q4' : decide (r < d) = false := by simp; omega
    obtain ⟨v, hv⟩ : ∃ y, g + d = y := ⟨_, rfl⟩
    obtain ⟨SU, u6⟩ : ∃ y, IntKind.u64.wrap (GU + d) = y := ⟨_, rfl⟩
    have u7 : IntKind.i64.wrap SU = v := by rw [← u6, ← u4, ← hv]; rw [wrap_u64, wrap_u64, IntKind.wrap_i64]; omega
    have E : Hid (finV cs c = max 0 v) := hide (by rw [E0.out, EV.out, hv]; split <;> omega)
    clear E0 EV rg0 rg1 hd hr q3 q4 hv d0 d1
    go_wp2_with fail
    go_ret
    exact ⟨by rw [E.out]; rfl, HB2.out⟩
set_option maxHeartbeats 1000000 in
theorem good_any (a : Option Addr) (cs : List Ch) (len cap : Nat) (n : Int) (w : World) (hl : cs.length = len) (hm : len ≤ 1073741824) (hn : R64 n) (hL : CLst w a cs) :
    Calls Try.prog 9 #[.slice a len cap, .int .i64 n] w fun e w' => e = .returned (.bool (gooB cs n)) ∧ Below w.heap.size w w' := by
  have hm' : (len : Int) ≤ 1073741824 := by omega
  by_cases hlong : len ≤ 4096
  case neg =>
    have E := hide (gooB_long (cs := cs) (n := n) (by omega))
    have t : (4096 : Int) < (len : Int) := by omega
    go_enter Try.func9, Try.ntmps9
    go_wp2_with fail
    go_ret
    exact ⟨by rw [E.out]; rfl, Below.refl _ _⟩
  have t : ¬ (4096 : Int) < (len : Int) := by omega
  have HL := hide hL
  have HN := hide hl
  have HG := hide hn
  have CF := hide (fun f l g w => fits_any f l g n w hn.2)
  clear hL hl hm hn
  go_enter Try.func9, Try.ntmps9
  go_wp2_with fail
  go_loopw [12] (fun vi wr => ∃ (k : Nat), vi = .int .i64 k ∧ Hid (k ≤ len ∧ (∀ j, j < k → okB cs n j = true) ∧ Below w.heap.size w wr)) (fun vi _ => len - (intOf vi).toNat)
  case atStart => exact ⟨0, rfl, hide ⟨by omega, fun j hj => by omega, Below.refl _ _⟩⟩
  case round =>
    obtain ⟨k, rfl, HV⟩ := hrel
    obtain ⟨hk, hv, hb⟩ := HV.out
    have hk0 : (0 : Int) ≤ (k : Int) := by omega
    have HB := hide hb
    have HF := hide hv
    clear HV hv
    by_cases hlt : k < len
    case neg =>
      have hlt' : ¬ (k : Int) < (len : Int) := by omega
      have E : Hid (gooB cs n = true) := hide (gooB_iff.2 ⟨by have := HN.out; omega, fun i hi => HF.out i (by have := HN.out; omega)⟩)
      clear HF hb
      go_wp2_with fail
      go_ret
      exact ⟨by rw [E.out]; rfl, HB.out⟩
    have hlt' : (k : Int) < (len : Int) := by omega
    rcases HL.out with hz | ⟨b, o, rfl, hbl, hcell⟩
    · have := HN.out; rw [hz] at this; simp at this; omega
    obtain ⟨z0, z1, z2⟩ := hcell k (by have := HN.out; omega)
    rw [← hb.cell (p := ⟨b, _, none⟩) hbl] at z0 z1 z2
    have zb : b < wr.heap.size := Nat.lt_of_lt_of_le hbl hb.size
    have EB := hide (show okB cs n k = (fitB (cs.getD k c0) n && (decide (k = 0) || nxB (cs.getD (k - 1) c0) (cs.getD k c0))) from rfl)
    have ENO := hide (fun h => gooB_no (cs := cs) (n := n) (i := k) (by have := HN.out; omega) h)
    have EYES : Hid (okB cs n k = true → ∀ j, j < k + 1 → okB cs n j = true) := hide (fun h j hj => by
      rcases Nat.lt_or_ge j k with h' | h'
      · exact HF.out j h'
      · obtain rfl : j = k := by omega
        exact h)
    obtain ⟨x, hx⟩ : ∃ x, cs.getD k c0 = x := ⟨_, rfl⟩
    rw [hx] at z0 z1 z2 EB
    obtain ⟨f, l, g⟩ := x
    simp only at z0 z1 z2
    have HB2 := hide (HB.out.alloc HB.out.size (.cells #[.int .i64 f, .int .i64 l, .int .i64 g] 31))
    cases q1 : fitB ⟨f, l, g⟩ n
    · have E := hide (ENO.out (by rw [EB.out, q1]; rfl))
      have CF1 := hide (CF.out f l g)
      rw [q1] at CF1
      clear EB ENO EYES q1 HF hcell hx
      go_wp2_with fail
      refine (CF1.out _).mono ?_
      rintro e w1 ⟨rfl, hb1⟩
      have HB1 := hide (HB2.out.trans (hb1.mono HB2.out.size))
      clear hb1
      go_wp2_with fail
      go_ret
      exact ⟨by rw [E.out]; rfl, HB1.out⟩
    have CF1 := hide (CF.out f l g)
    rw [q1] at CF1
    by_cases q0 : k = 0
    · have E := hide (EYES.out (by rw [EB.out, q1, decide_eq_true q0]; rfl))
      clear EB ENO EYES q1 HF hcell hx hb
      subst q0
      simp only [Nat.zero_mul, Nat.add_zero] at z0 z1 z2
      go_wp2_with fail
      refine (CF1.out _).mono ?_
      rintro e w1 ⟨rfl, hb1⟩
      have HB1 := hide (HB2.out.trans (hb1.mono HB2.out.size))
      clear hb1
      go_wp2_with fail
      go_quiet (fail)
      go_wp2_with fail
      go_roundw
      case rel => exact ⟨1, by go_num, hide ⟨by omega, E.out, below_drewN HB1.out _⟩⟩
      case measure => simp [intOf]; omega
    obtain ⟨j, hj⟩ : ∃ j, k = j + 1 := ⟨k - 1, by omega⟩
    obtain ⟨y0, y1, y2⟩ := hcell j (by have := HN.out; omega)
    have hok := HF.out j (by omega)
    unfold okB at hok
    rw [Bool.and_eq_true] at hok
    rw [show k - 1 = j by omega, decide_eq_false q0, Bool.false_or] at EB
    obtain ⟨y, hy⟩ : ∃ y, cs.getD j c0 = y := ⟨_, rfl⟩
    rw [hy] at y0 y1 y2 EB hok
    obtain ⟨f', l', g'⟩ := y
    simp only at y0 y1 y2
    have hfit := fitB_t.1 hok.1
    simp only at hfit
    obtain ⟨p0, p1, p2, _, p4, p5, p6⟩ := hfit
    have hn := HG.out
    have CG := hide (fun w => goes_any f' l' g' f g w p1 p0 p2 p4 (by have := hn.2; omega))
    have EV : Hid (okB cs n k = !(decide (f ≤ l') || goB ⟨f', l', g'⟩ f g)) := hide (by rw [EB.out, q1]; rfl)
    have k1 : IntKind.i64.wrap ((k : Int) - 1) = (j : Int) := by rw [IntKind.wrap_i64]; omega
    have k2 : decide ((0 : Int) < (k : Int)) = true := by simp; omega
    have k2' : (0 : Int) < (k : Int) := by omega
    have k2n : 0 < k := by omega
    have j0 : (0 : Int) ≤ (j : Int) := by omega
    have j1 : (j : Int) < (len : Int) := by omega
    have HK := hide hj
    cases q2 : decide (f ≤ l')
    · cases q3 : goB ⟨f', l', g'⟩ f g
      · have E := hide (EYES.out (by rw [EV.out, q2, q3]; rfl))
        rw [q3] at CG
        clear EB EV ENO EYES q1 HF hcell hx hy hok q0 p0 p1 p2 p4 p5 p6 q3 hj
        go_wp2_with fail
        refine (CF1.out _).mono ?_
        rintro e w1 ⟨rfl, hb1⟩
        have HB1 := hide (HB2.out.trans (hb1.mono HB2.out.size))
        have hz := (Blk.new wr #[.int .i64 f, .int .i64 l, .int .i64 g] 31).below hb1
        have c0 : w1.cell? ⟨wr.heap.size, 0, none⟩ = some (.int .i64 f) := hz.cell 0
        have c2 : w1.cell? ⟨wr.heap.size, 2, none⟩ = some (.int .i64 g) := hz.cell 2
        rw [← HB1.out.cell (p := ⟨b, _, none⟩) hbl] at y0 y1 y2
        have zb1 : b < w1.heap.size := Nat.lt_of_lt_of_le hbl HB1.out.size
        have zs1 : wr.heap.size < w1.heap.size := hz.lt
        have KS := hide (fun (u : World) (hu : Below w1.heap.size w1 u) => show (b < u.heap.size ∧ wr.heap.size < u.heap.size) ∧ (u.cell? ⟨wr.heap.size, 0, none⟩ = some (.int .i64 f) ∧ u.cell? ⟨wr.heap.size, 2, none⟩ = some (.int .i64 g)) ∧ u.cell? ⟨b, o + j * 3, none⟩ = some (.int .i64 f') ∧ u.cell? ⟨b, o + j * 3 + 1, none⟩ = some (.int .i64 l') ∧ u.cell? ⟨b, o + j * 3 + 2, none⟩ = some (.int .i64 g') from
          ⟨⟨Nat.lt_of_lt_of_le zb1 hu.size, Nat.lt_of_lt_of_le zs1 hu.size⟩, ⟨(hu.cell (p := ⟨wr.heap.size, 0, none⟩) zs1).trans c0, (hu.cell (p := ⟨wr.heap.size, 2, none⟩) zs1).trans c2⟩, (hu.cell (p := ⟨b, _, none⟩) zb1).trans y0, (hu.cell (p := ⟨b, _, none⟩) zb1).trans y1, (hu.cell (p := ⟨b, _, none⟩) zb1).trans y2⟩)
        have HV := hide (Below.refl w1.heap.size w1)
        clear hb1 hz hb
        go_wp2_with fail
        go_region_held3 (fun x => (b < x.heap.size ∧ wr.heap.size < x.heap.size) ∧ (x.cell? ⟨wr.heap.size, 0, none⟩ = some (.int .i64 f) ∧ x.cell? ⟨wr.heap.size, 2, none⟩ = some (.int .i64 g)) ∧ x.cell? ⟨b, o + j * 3, none⟩ = some (.int .i64 f') ∧ x.cell? ⟨b, o + j * 3 + 1, none⟩ = some (.int .i64 l') ∧ x.cell? ⟨b, o + j * 3 + 2, none⟩ = some (.int .i64 g')) (exact KS.out _ (below_d HV.out (Below.refl _ _) rfl rfl rfl rfl)) ((go_at_call 18; refine (CG.out _).mono ?_; rintro e wy ⟨rfl, hby⟩; replace HV := hide (below_d HV.out hby rfl rfl rfl rfl); clear hby))
        go_wp2_with fail
        go_roundw
        case rel => exact ⟨k + 1, by go_num, hide ⟨by omega, E.out, HB1.out.trans (HV.out.mono HB1.out.size)⟩⟩
        case measure => simp [intOf]; omega
      · have E := hide (ENO.out (by rw [EV.out, q2, q3]; rfl))
        rw [q3] at CG
        clear EB EV ENO EYES q1 HF hcell hx hy hok q0 p0 p1 p2 p4 p5 p6 q3 hj
        go_wp2_with fail
        refine (CF1.out _).mono ?_
        rintro e w1 ⟨rfl, hb1⟩
        have HB1 := hide (HB2.out.trans (hb1.mono HB2.out.size))
        have hz := (Blk.new wr #[.int .i64 f, .int .i64 l, .int .i64 g] 31).below hb1
        have c0 : w1.cell? ⟨wr.heap.size, 0, none⟩ = some (.int .i64 f) := hz.cell 0
        have c2 : w1.cell? ⟨wr.heap.size, 2, none⟩ = some (.int .i64 g) := hz.cell 2
        rw [← HB1.out.cell (p := ⟨b, _, none⟩) hbl] at y0 y1 y2
        have zb1 : b < w1.heap.size := Nat.lt_of_lt_of_le hbl HB1.out.size
        have zs1 : wr.heap.size < w1.heap.size := hz.lt
        have KS := hide (fun (u : World) (hu : Below w1.heap.size w1 u) => show (b < u.heap.size ∧ wr.heap.size < u.heap.size) ∧ (u.cell? ⟨wr.heap.size, 0, none⟩ = some (.int .i64 f) ∧ u.cell? ⟨wr.heap.size, 2, none⟩ = some (.int .i64 g)) ∧ u.cell? ⟨b, o + j * 3, none⟩ = some (.int .i64 f') ∧ u.cell? ⟨b, o + j * 3 + 1, none⟩ = some (.int .i64 l') ∧ u.cell? ⟨b, o + j * 3 + 2, none⟩ = some (.int .i64 g') from
          ⟨⟨Nat.lt_of_lt_of_le zb1 hu.size, Nat.lt_of_lt_of_le zs1 hu.size⟩, ⟨(hu.cell (p := ⟨wr.heap.size, 0, none⟩) zs1).trans c0, (hu.cell (p := ⟨wr.heap.size, 2, none⟩) zs1).trans c2⟩, (hu.cell (p := ⟨b, _, none⟩) zb1).trans y0, (hu.cell (p := ⟨b, _, none⟩) zb1).trans y1, (hu.cell (p := ⟨b, _, none⟩) zb1).trans y2⟩)
        have HV := hide (Below.refl w1.heap.size w1)
        clear hb1 hz hb
        go_wp2_with fail
        go_region_held3 (fun x => (b < x.heap.size ∧ wr.heap.size < x.heap.size) ∧ (x.cell? ⟨wr.heap.size, 0, none⟩ = some (.int .i64 f) ∧ x.cell? ⟨wr.heap.size, 2, none⟩ = some (.int .i64 g)) ∧ x.cell? ⟨b, o + j * 3, none⟩ = some (.int .i64 f') ∧ x.cell? ⟨b, o + j * 3 + 1, none⟩ = some (.int .i64 l') ∧ x.cell? ⟨b, o + j * 3 + 2, none⟩ = some (.int .i64 g')) (exact KS.out _ (below_d HV.out (Below.refl _ _) rfl rfl rfl rfl)) ((go_at_call 18; refine (CG.out _).mono ?_; rintro e wy ⟨rfl, hby⟩; replace HV := hide (below_d HV.out hby rfl rfl rfl rfl); clear hby))
        go_wp2_with fail
        go_ret
        exact ⟨by rw [E.out]; rfl, HB1.out.trans (HV.out.mono HB1.out.size)⟩
    · have E := hide (ENO.out (by rw [EV.out, q2]; rfl))
      clear EB EV ENO EYES q1 HF hcell hx hy hok q0 p0 p1 p2 p4 p5 p6 hj
      go_wp2_with fail
      refine (CF1.out _).mono ?_
      rintro e w1 ⟨rfl, hb1⟩
      have HB1 := hide (HB2.out.trans (hb1.mono HB2.out.size))
      have hz := (Blk.new wr #[.int .i64 f, .int .i64 l, .int .i64 g] 31).below hb1
      have c0 : w1.cell? ⟨wr.heap.size, 0, none⟩ = some (.int .i64 f) := hz.cell 0
      have c2 : w1.cell? ⟨wr.heap.size, 2, none⟩ = some (.int .i64 g) := hz.cell 2
      rw [← HB1.out.cell (p := ⟨b, _, none⟩) hbl] at y0 y1 y2
      have zb1 : b < w1.heap.size := Nat.lt_of_lt_of_le hbl HB1.out.size
      have zs1 : wr.heap.size < w1.heap.size := hz.lt
      clear hb1 hz hb
      go_wp2_with fail
      go_quiet (fail)
      go_wp2_with fail
      go_ret
      exact ⟨by rw [E.out]; rfl, below_drewN HB1.out _⟩
end Go.Proofs.Ythgpchjkeidilaa
