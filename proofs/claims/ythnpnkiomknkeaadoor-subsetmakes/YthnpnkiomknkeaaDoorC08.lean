/-
  Joined: C11F, C11Fi, C11Rg, C11T.
-/
import Derived.Deep.AppendLies
import Derived.Lib.MinMax
import Derived.Test.YthnpnkiomknkeaaDoorC06
namespace Go.Proofs.YthnpnkiomknkeaaDoor.C11
open Go.RowKit Go.Deep
set_option linter.unusedVariables false
def CLst (w : World) (a : Option Addr) (cs : List Ch) : Prop :=
  cs = [] ∨ ∃ b off, a = some ⟨b, off, none⟩ ∧ b < w.heap.size ∧ ∀ i, i < cs.length → w.cell? ⟨b, off + i * 3, none⟩ = some (.int .i64 (cs.getD i c0).f) ∧ w.cell? ⟨b, off + i * 3 + 1, none⟩ = some (.int .i64 (cs.getD i c0).l) ∧ w.cell? ⟨b, off + i * 3 + 2, none⟩ = some (.int .i64 (cs.getD i c0).g)
theorem CLst.below {w w' : World} {a : Option Addr} {cs : List Ch} (h : CLst w a cs) (hb : Below w.heap.size w w') : CLst w' a cs := by
  rcases h with h | ⟨b, off, h1, h2, h3⟩
  · exact Or.inl h
  · refine Or.inr ⟨b, off, h1, Nat.lt_of_lt_of_le h2 hb.size, fun i hi => ?_⟩
    obtain ⟨x, y, z⟩ := h3 i hi
    exact ⟨by rw [hb.cell (p := ⟨b, _, none⟩) h2]; exact x, by rw [hb.cell (p := ⟨b, _, none⟩) h2]; exact y, by rw [hb.cell (p := ⟨b, _, none⟩) h2]; exact z⟩
def R64 (z : Int) : Prop := -9223372036854775808 ≤ z ∧ z ≤ 9223372036854775807
def RC (x : Ch) : Prop := R64 x.f ∧ R64 x.l ∧ R64 x.g
theorem hp_any (f l g : Int) (w : World) : Calls Tryd.prog 63 #[.agg #[.int .i64 f, .int .i64 l, .int .i64 g]] w fun e w' => e = .returned (.bool (hpB ⟨f, l, g⟩)) ∧ Below w.heap.size w w' := by
  have C := hide isPt_any
  have HB := hide ((Below.refl w.heap.size w).alloc (Nat.le_refl _) (.cells #[.int .i64 f, .int .i64 l, .int .i64 g] 70))
  unfold hpB
  cases h1 : isP f
  · simp only [Bool.false_and]
    go_enter Tryd.func63, Tryd.ntmps63
    go_wp2_with (go_at_call 77; refine (C.out _ _).mono ?_; rintro e w' ⟨rfl, rfl⟩)
    go_ret
    exact ⟨rfl, HB.out⟩
  cases h2 : isP l
  · simp only [Bool.true_and, Bool.false_and]
    go_enter Tryd.func63, Tryd.ntmps63
    go_wp2_with (go_at_call 77; refine (C.out _ _).mono ?_; rintro e w' ⟨rfl, rfl⟩)
    go_ret
    exact ⟨rfl, HB.out⟩
  simp only [Bool.true_and]
  cases h3 : decide (f < 55296) <;> cases h4 : decide (l < 55296)
  all_goals
    go_enter Tryd.func63, Tryd.ntmps63
    go_wp2_with (go_at_call 77; refine (C.out _ _).mono ?_; rintro e w' ⟨rfl, rfl⟩)
    go_ret
    exact ⟨rfl, HB.out⟩
theorem fits_any (f l g n : Int) (w : World) (hn : n ≤ 9223372036854775807) : Calls Tryd.prog 51 #[.agg #[.int .i64 f, .int .i64 l, .int .i64 g], .int .i64 n] w fun e w' => e = .returned (.bool (fitB ⟨f, l, g⟩ n)) ∧ Below w.heap.size w w' := by
  have C := hide (hp_any f l g)
  have HB := hide ((Below.refl w.heap.size w).alloc (Nat.le_refl _) (.cells #[.int .i64 f, .int .i64 l, .int .i64 g] 70))
  have HF := hide (@fitB_hp ⟨f, l, g⟩ n)
  have HFt := hide (@fitB_t ⟨f, l, g⟩ n)
  obtain ⟨R, hR⟩ : ∃ R, fitB ⟨f, l, g⟩ n = R := ⟨_, rfl⟩
  rw [hR] at HF HFt ⊢
  clear hR
  obtain ⟨H, hH⟩ : ∃ H, hpB ⟨f, l, g⟩ = H := ⟨_, rfl⟩
  have hpb : H = true → (0 ≤ f ∧ f ≤ 1114111) ∧ (0 ≤ l ∧ l ≤ 1114111) := fun h => by
    rw [← hH] at h; unfold hpB at h; simp only [Bool.and_eq_true, isP_t] at h; omega
  have HPB := hide hpb
  clear hpb
  rw [hH] at C HF
  clear hH
  by_cases h1 : f ≤ l
  case neg =>
    have h1' : decide (f ≤ l) = false := by simp; omega
    have E : Hid (R = false) := hide (by cases R; rfl; exact absurd (HF.out.1 rfl).1 h1)
    clear h1 HF HFt
    go_enter Tryd.func51, Tryd.ntmps51
    go_wp2_with fail
    go_ret
    exact ⟨by rw [E.out]; rfl, HB.out⟩
  cases hH : H
  case false =>
    subst hH
    have E : Hid (R = false) := hide (by cases R; rfl; exact absurd (HF.out.1 rfl).2.1 (by simp))
    clear HF HFt
    go_enter Tryd.func51, Tryd.ntmps51
    go_wp2_with fail
    refine (C.out _).mono ?_
    rintro e w1 ⟨rfl, hb1⟩
    have HB1 := hide (HB.out.trans (hb1.mono (by simp)))
    have HZ := hide ((Blk.new w #[.int .i64 f, .int .i64 l, .int .i64 g] 70).below hb1)
    clear hb1
    go_wp2_with fail
    go_ret
    exact ⟨by rw [E.out]; rfl, HB1.out⟩
  subst hH
  have b0 : Hid (R = true ↔ (1 ≤ g ∧ g < n ∧ l - f < n - g)) := hide ⟨fun h => (HF.out.1 h).2.2, fun h => HF.out.2 ⟨h1, rfl, h⟩⟩
  obtain ⟨⟨f0, f1⟩, l0, l1⟩ := HPB.out rfl
  clear HF HFt HPB
  by_cases h2 : 1 ≤ g
  case neg =>
    have h2' : decide (1 ≤ g) = false := by simp; omega
    have E : Hid (R = false) := hide (by cases R; rfl; exact absurd (b0.out.1 rfl).1 h2)
    clear h2 b0
    go_enter Tryd.func51, Tryd.ntmps51
    go_wp2_with fail
    refine (C.out _).mono ?_
    rintro e w1 ⟨rfl, hb1⟩
    have HB1 := hide (HB.out.trans (hb1.mono (by simp)))
    have hz := (Blk.new w #[.int .i64 f, .int .i64 l, .int .i64 g] 70).below hb1
    have z2 : w1.cell? ⟨w.heap.size, 2, none⟩ = some (.int .i64 g) := hz.cell 2
    clear hb1 hz
    go_wp2_with fail
    go_ret
    exact ⟨by rw [E.out]; rfl, HB1.out⟩
  by_cases h3 : g < n
  case neg =>
    have h3' : decide (g < n) = false := by simp; omega
    have E : Hid (R = false) := hide (by cases R; rfl; exact absurd (b0.out.1 rfl).2.1 h3)
    clear h3 b0
    go_enter Tryd.func51, Tryd.ntmps51
    go_wp2_with fail
    refine (C.out _).mono ?_
    rintro e w1 ⟨rfl, hb1⟩
    have HB1 := hide (HB.out.trans (hb1.mono (by simp)))
    have hz := (Blk.new w #[.int .i64 f, .int .i64 l, .int .i64 g] 70).below hb1
    have z2 : w1.cell? ⟨w.heap.size, 2, none⟩ = some (.int .i64 g) := hz.cell 2
    clear hb1 hz
    go_wp2_with fail
    go_ret
    exact ⟨by rw [E.out]; rfl, HB1.out⟩
  have E : Hid (R = decide (l - f < n - g)) := hide (by
    cases hd : decide (l - f < n - g)
    · cases R
      · rfl
      · have := (b0.out.1 rfl).2.2; simp at hd; omega
    · exact b0.out.2 ⟨h2, h3, by simpa using hd⟩)
  clear b0
  go_enter Tryd.func51, Tryd.ntmps51
  go_wp2_with fail
  refine (C.out _).mono ?_
  rintro e w1 ⟨rfl, hb1⟩
  have HB1 := hide (HB.out.trans (hb1.mono (by simp)))
  have hz := (Blk.new w #[.int .i64 f, .int .i64 l, .int .i64 g] 70).below hb1
  have z0 : w1.cell? ⟨w.heap.size, 0, none⟩ = some (.int .i64 f) := hz.cell 0
  have z1 : w1.cell? ⟨w.heap.size, 1, none⟩ = some (.int .i64 l) := hz.cell 1
  have z2 : w1.cell? ⟨w.heap.size, 2, none⟩ = some (.int .i64 g) := hz.cell 2
  clear hb1 hz
  go_wp2_with fail
  go_ret
  exact ⟨by rw [E.out]; rfl, HB1.out⟩
theorem goes_any (f l g c q : Int) (w : World) (f0 : 0 ≤ f) (fl : f ≤ l) (l1 : l ≤ 1114111) (g0 : 1 ≤ g) (g1 : g + l - f + 1 ≤ 9223372036854775807) :
    Calls Tryd.prog 52 #[.agg #[.int .i64 f, .int .i64 l, .int .i64 g], .int .i64 c, .int .i64 q] w fun e w' => e = .returned (.bool (goB ⟨f, l, g⟩ c q)) ∧ Below w.heap.size w w' := by
  have HB := hide ((Below.refl w.heap.size w).alloc (Nat.le_refl _) (.cells #[.int .i64 f, .int .i64 l, .int .i64 g] 70))
  by_cases h1 : c = l + 1
  case neg =>
    rw [goB_f.2 (fun h => h1 h.1)]
    have h1' : (c == l + 1) = false := by simpa using h1
    clear h1 g1
    go_enter Tryd.func52, Tryd.ntmps52
    go_wp2_with fail
    go_ret
    exact ⟨rfl, HB.out⟩
  have hv : goB ⟨f, l, g⟩ c q = (q == g + l - f + 1) := by
    unfold goB
    rw [Bool.eq_iff_iff, decide_eq_true_iff, beq_iff_eq]
    exact ⟨fun h => h.2, fun h => ⟨h1, h⟩⟩
  rw [hv]
  obtain ⟨A, hA⟩ : ∃ A, wrap64 (g + l) = A := ⟨_, rfl⟩
  have hB : wrap64 (A - f) = g + l - f := by rw [← hA]; unfold wrap64 at *; omega
  obtain ⟨B, hBB⟩ : ∃ B, g + l - f = B := ⟨_, rfl⟩
  rw [hBB] at hB ⊢ g1
  have b0 : 0 ≤ B := by omega
  have b1 : B + 1 ≤ 9223372036854775807 := g1
  subst h1
  clear hv g1 hBB
  clear g0
  go_enter Tryd.func52, Tryd.ntmps52
  go_wp2_with fail
  go_ret
  exact ⟨rfl, HB.out⟩
theorem below_d {V a b x : World} (h : Below V.heap.size V a) (hx : Below b.heap.size b x) (e0 : b.os = a.os) (e1 : b.tape = a.tape) (e2 : b.output = a.output) (e3 : b.heap = a.heap) : Below V.heap.size V x :=
  h.trans ⟨hx.os.trans e0, hx.tape.trans e1, hx.output.trans e2, by rw [← e3]; exact hx.size, fun k hk => by rw [hx.block k (by rw [e3]; exact Nat.lt_of_lt_of_le hk h.size), e3]⟩
set_option maxHeartbeats 1000000 in
theorem good_any (a : Option Addr) (cs : List Ch) (len cap : Nat) (n : Int) (w : World) (hl : cs.length = len) (hm : len ≤ 1073741824) (hn : R64 n) (hL : CLst w a cs) :
    Calls Tryd.prog 36 #[.slice a len cap, .int .i64 n] w fun e w' => e = .returned (.bool (gooB cs n)) ∧ Below w.heap.size w w' := by
  have hm' : (len : Int) ≤ 1073741824 := by omega
  by_cases hlong : len ≤ 4096
  case neg =>
    have E := hide (gooB_long (cs := cs) (n := n) (by omega))
    have t : (4096 : Int) < (len : Int) := by omega
    go_enter Tryd.func36, Tryd.ntmps36
    go_wp2_with fail
    go_ret
    exact ⟨by rw [E.out]; rfl, Below.refl _ _⟩
  have t : ¬ (4096 : Int) < (len : Int) := by omega
  have HL := hide hL
  have HN := hide hl
  have HG := hide hn
  have CF := hide (fun f l g w => fits_any f l g n w hn.2)
  clear hL hl hm hn
  go_enter Tryd.func36, Tryd.ntmps36
  go_wp2_with fail
  go_loopw [12] (fun vi wr => ∃ (k : Nat), vi = .int .i64 k ∧ Hid (k ≤ len ∧ (∀ j, j < k → okB cs n j = true) ∧ Below w.heap.size w wr)) (fun vi _ => len - (intOf vi).toNat)
  case atStart => exact ⟨0, rfl, hide ⟨by omega, fun j hj => by omega, Below.refl _ _⟩⟩
  case round =>
    obtain ⟨k, rfl, HV⟩ := hrel
    obtain ⟨hk, hv, hb⟩ := HV.out
    have hk0 : (0 : Int) ≤ (k : Int) := by omega
    have HB := hide hb
    have HF := hide hv
    clear HV hv
    by_cases hlt : k < len
    case neg =>
      have hlt' : ¬ (k : Int) < (len : Int) := by omega
      have E : Hid (gooB cs n = true) := hide (gooB_iff.2 ⟨by have := HN.out; omega, fun i hi => HF.out i (by have := HN.out; omega)⟩)
      clear HF hb
      go_wp2_with fail
      go_ret
      exact ⟨by rw [E.out]; rfl, HB.out⟩
    have hlt' : (k : Int) < (len : Int) := by omega
    rcases HL.out with hz | ⟨b, o, rfl, hbl, hcell⟩
    · have := HN.out; rw [hz] at this; simp at this; omega
    obtain ⟨z0, z1, z2⟩ := hcell k (by have := HN.out; omega)
    rw [← hb.cell (p := ⟨b, _, none⟩) hbl] at z0 z1 z2
    have zb : b < wr.heap.size := Nat.lt_of_lt_of_le hbl hb.size
    have EB := hide (show okB cs n k = (fitB (cs.getD k c0) n && (decide (k = 0) || nxB (cs.getD (k - 1) c0) (cs.getD k c0))) from rfl)
    have ENO := hide (fun h => gooB_no (cs := cs) (n := n) (i := k) (by have := HN.out; omega) h)
    have EYES : Hid (okB cs n k = true → ∀ j, j < k + 1 → okB cs n j = true) := hide (fun h j hj => by
      rcases Nat.lt_or_ge j k with h' | h'
      · exact HF.out j h'
      · obtain rfl : j = k := by omega
        exact h)
    obtain ⟨x, hx⟩ : ∃ x, cs.getD k c0 = x := ⟨_, rfl⟩
    rw [hx] at z0 z1 z2 EB
    obtain ⟨f, l, g⟩ := x
    simp only at z0 z1 z2
    have HB2 := hide (HB.out.alloc HB.out.size (.cells #[.int .i64 f, .int .i64 l, .int .i64 g] 70))
    cases q1 : fitB ⟨f, l, g⟩ n
    · have E := hide (ENO.out (by rw [EB.out, q1]; rfl))
      have CF1 := hide (CF.out f l g)
      rw [q1] at CF1
      clear EB ENO EYES q1 HF hcell hx
      go_wp2_with fail
      refine (CF1.out _).mono ?_
      rintro e w1 ⟨rfl, hb1⟩
      have HB1 := hide (HB2.out.trans (hb1.mono HB2.out.size))
      clear hb1
      go_wp2_with fail
      go_ret
      exact ⟨by rw [E.out]; rfl, HB1.out⟩
    have CF1 := hide (CF.out f l g)
    rw [q1] at CF1
    by_cases q0 : k = 0
    · have E := hide (EYES.out (by rw [EB.out, q1, decide_eq_true q0]; rfl))
      clear EB ENO EYES q1 HF hcell hx hb
      subst q0
      simp only [Nat.zero_mul, Nat.add_zero] at z0 z1 z2
      go_wp2_with fail
      refine (CF1.out _).mono ?_
      rintro e w1 ⟨rfl, hb1⟩
      have HB1 := hide (HB2.out.trans (hb1.mono HB2.out.size))
      clear hb1
      go_wp2_with fail
      go_quiet (fail)
      go_wp2_with fail
      go_roundw
      case rel => exact ⟨1, by go_num, hide ⟨by omega, E.out, below_drewN HB1.out _⟩⟩
      case measure => simp [intOf]; omega
    obtain ⟨j, hj⟩ : ∃ j, k = j + 1 := ⟨k - 1, by omega⟩
    obtain ⟨y0, y1, y2⟩ := hcell j (by have := HN.out; omega)
    have hok := HF.out j (by omega)
    unfold okB at hok
    rw [Bool.and_eq_true] at hok
    rw [show k - 1 = j by omega, decide_eq_false q0, Bool.false_or] at EB
    obtain ⟨y, hy⟩ : ∃ y, cs.getD j c0 = y := ⟨_, rfl⟩
    rw [hy] at y0 y1 y2 EB hok
    obtain ⟨f', l', g'⟩ := y
    simp only at y0 y1 y2
    have hfit := fitB_t.1 hok.1
    simp only at hfit
    obtain ⟨p0, p1, p2, _, p4, p5, p6⟩ := hfit
    have hn := HG.out
    have CG := hide (fun w => goes_any f' l' g' f g w p1 p0 p2 p4 (by have := hn.2; omega))
    have EV : Hid (okB cs n k = !(decide (f ≤ l') || goB ⟨f', l', g'⟩ f g)) := hide (by rw [EB.out, q1]; rfl)
    have k1 : IntKind.i64.wrap ((k : Int) - 1) = (j : Int) := by rw [IntKind.wrap_i64]; omega
    have k2 : decide ((0 : Int) < (k : Int)) = true := by simp; omega
    have k2' : (0 : Int) < (k : Int) := by omega
    have k2n : 0 < k := by omega
    have j0 : (0 : Int) ≤ (j : Int) := by omega
    have j1 : (j : Int) < (len : Int) := by omega
    have HK := hide hj
    cases q2 : decide (f ≤ l')
    · cases q3 : goB ⟨f', l', g'⟩ f g
      · have E := hide (EYES.out (by rw [EV.out, q2, q3]; rfl))
        rw [q3] at CG
        clear EB EV ENO EYES q1 HF hcell hx hy hok q0 p0 p1 p2 p4 p5 p6 q3 hj
        go_wp2_with fail
        refine (CF1.out _).mono ?_
        rintro e w1 ⟨rfl, hb1⟩
        have HB1 := hide (HB2.out.trans (hb1.mono HB2.out.size))
        have hz := (Blk.new wr #[.int .i64 f, .int .i64 l, .int .i64 g] 70).below hb1
        have c0 : w1.cell? ⟨wr.heap.size, 0, none⟩ = some (.int .i64 f) := hz.cell 0
        have c2 : w1.cell? ⟨wr.heap.size, 2, none⟩ = some (.int .i64 g) := hz.cell 2
        rw [← HB1.out.cell (p := ⟨b, _, none⟩) hbl] at y0 y1 y2
        have zb1 : b < w1.heap.size := Nat.lt_of_lt_of_le hbl HB1.out.size
        have zs1 : wr.heap.size < w1.heap.size := hz.lt
        have KS := hide (fun (u : World) (hu : Below w1.heap.size w1 u) => show (b < u.heap.size ∧ wr.heap.size < u.heap.size) ∧ (u.cell? ⟨wr.heap.size, 0, none⟩ = some (.int .i64 f) ∧ u.cell? ⟨wr.heap.size, 2, none⟩ = some (.int .i64 g)) ∧ u.cell? ⟨b, o + j * 3, none⟩ = some (.int .i64 f') ∧ u.cell? ⟨b, o + j * 3 + 1, none⟩ = some (.int .i64 l') ∧ u.cell? ⟨b, o + j * 3 + 2, none⟩ = some (.int .i64 g') from
          ⟨⟨Nat.lt_of_lt_of_le zb1 hu.size, Nat.lt_of_lt_of_le zs1 hu.size⟩, ⟨(hu.cell (p := ⟨wr.heap.size, 0, none⟩) zs1).trans c0, (hu.cell (p := ⟨wr.heap.size, 2, none⟩) zs1).trans c2⟩, (hu.cell (p := ⟨b, _, none⟩) zb1).trans y0, (hu.cell (p := ⟨b, _, none⟩) zb1).trans y1, (hu.cell (p := ⟨b, _, none⟩) zb1).trans y2⟩)
        have HV := hide (Below.refl w1.heap.size w1)
        clear hb1 hz hb
        go_wp2_with fail
        go_region_held3 (fun x => (b < x.heap.size ∧ wr.heap.size < x.heap.size) ∧ (x.cell? ⟨wr.heap.size, 0, none⟩ = some (.int .i64 f) ∧ x.cell? ⟨wr.heap.size, 2, none⟩ = some (.int .i64 g)) ∧ x.cell? ⟨b, o + j * 3, none⟩ = some (.int .i64 f') ∧ x.cell? ⟨b, o + j * 3 + 1, none⟩ = some (.int .i64 l') ∧ x.cell? ⟨b, o + j * 3 + 2, none⟩ = some (.int .i64 g')) (exact KS.out _ (below_d HV.out (Below.refl _ _) rfl rfl rfl rfl)) ((go_at_call 52; refine (CG.out _).mono ?_; rintro e wy ⟨rfl, hby⟩; replace HV := hide (below_d HV.out hby rfl rfl rfl rfl); clear hby))
        go_wp2_with fail
        go_roundw
        case rel => exact ⟨k + 1, by go_num, hide ⟨by omega, E.out, HB1.out.trans (HV.out.mono HB1.out.size)⟩⟩
        case measure => simp [intOf]; omega
      · have E := hide (ENO.out (by rw [EV.out, q2, q3]; rfl))
        rw [q3] at CG
        clear EB EV ENO EYES q1 HF hcell hx hy hok q0 p0 p1 p2 p4 p5 p6 q3 hj
        go_wp2_with fail
        refine (CF1.out _).mono ?_
        rintro e w1 ⟨rfl, hb1⟩
        have HB1 := hide (HB2.out.trans (hb1.mono HB2.out.size))
        have hz := (Blk.new wr #[.int .i64 f, .int .i64 l, .int .i64 g] 70).below hb1
        have c0 : w1.cell? ⟨wr.heap.size, 0, none⟩ = some (.int .i64 f) := hz.cell 0
        have c2 : w1.cell? ⟨wr.heap.size, 2, none⟩ = some (.int .i64 g) := hz.cell 2
        rw [← HB1.out.cell (p := ⟨b, _, none⟩) hbl] at y0 y1 y2
        have zb1 : b < w1.heap.size := Nat.lt_of_lt_of_le hbl HB1.out.size
        have zs1 : wr.heap.size < w1.heap.size := hz.lt
        have KS := hide (fun (u : World) (hu : Below w1.heap.size w1 u) => show (b < u.heap.size ∧ wr.heap.size < u.heap.size) ∧ (u.cell? ⟨wr.heap.size, 0, none⟩ = some (.int .i64 f) ∧ u.cell? ⟨wr.heap.size, 2, none⟩ = some (.int .i64 g)) ∧ u.cell? ⟨b, o + j * 3, none⟩ = some (.int .i64 f') ∧ u.cell? ⟨b, o + j * 3 + 1, none⟩ = some (.int .i64 l') ∧ u.cell? ⟨b, o + j * 3 + 2, none⟩ = some (.int .i64 g') from
          ⟨⟨Nat.lt_of_lt_of_le zb1 hu.size, Nat.lt_of_lt_of_le zs1 hu.size⟩, ⟨(hu.cell (p := ⟨wr.heap.size, 0, none⟩) zs1).trans c0, (hu.cell (p := ⟨wr.heap.size, 2, none⟩) zs1).trans c2⟩, (hu.cell (p := ⟨b, _, none⟩) zb1).trans y0, (hu.cell (p := ⟨b, _, none⟩) zb1).trans y1, (hu.cell (p := ⟨b, _, none⟩) zb1).trans y2⟩)
        have HV := hide (Below.refl w1.heap.size w1)
        clear hb1 hz hb
        go_wp2_with fail
        go_region_held3 (fun x => (b < x.heap.size ∧ wr.heap.size < x.heap.size) ∧ (x.cell? ⟨wr.heap.size, 0, none⟩ = some (.int .i64 f) ∧ x.cell? ⟨wr.heap.size, 2, none⟩ = some (.int .i64 g)) ∧ x.cell? ⟨b, o + j * 3, none⟩ = some (.int .i64 f') ∧ x.cell? ⟨b, o + j * 3 + 1, none⟩ = some (.int .i64 l') ∧ x.cell? ⟨b, o + j * 3 + 2, none⟩ = some (.int .i64 g')) (exact KS.out _ (below_d HV.out (Below.refl _ _) rfl rfl rfl rfl)) ((go_at_call 52; refine (CG.out _).mono ?_; rintro e wy ⟨rfl, hby⟩; replace HV := hide (below_d HV.out hby rfl rfl rfl rfl); clear hby))
        go_wp2_with fail
        go_ret
        exact ⟨by rw [E.out]; rfl, HB1.out.trans (HV.out.mono HB1.out.size)⟩
    · have E := hide (ENO.out (by rw [EV.out, q2]; rfl))
      clear EB EV ENO EYES q1 HF hcell hx hy hok q0 p0 p1 p2 p4 p5 p6 hj
      go_wp2_with fail
      refine (CF1.out _).mono ?_
      rintro e w1 ⟨rfl, hb1⟩
      have HB1 := hide (HB2.out.trans (hb1.mono HB2.out.size))
      have hz := (Blk.new wr #[.int .i64 f, .int .i64 l, .int .i64 g] 70).below hb1
      have c0 : w1.cell? ⟨wr.heap.size, 0, none⟩ = some (.int .i64 f) := hz.cell 0
      have c2 : w1.cell? ⟨wr.heap.size, 2, none⟩ = some (.int .i64 g) := hz.cell 2
      rw [← HB1.out.cell (p := ⟨b, _, none⟩) hbl] at y0 y1 y2
      have zb1 : b < w1.heap.size := Nat.lt_of_lt_of_le hbl HB1.out.size
      have zs1 : wr.heap.size < w1.heap.size := hz.lt
      clear hb1 hz hb
      go_wp2_with fail
      go_quiet (fail)
      go_wp2_with fail
      go_ret
      exact ⟨by rw [E.out]; rfl, below_drewN HB1.out _⟩
set_option maxRecDepth 8000 in
set_option maxHeartbeats 4000000 in
theorem rgood_any (a : Option Addr) (cs : List Ch) (len cap : Nat) (n : Int) (w : World) (hl : cs.length = len) (hm : len ≤ 1073741824) (hn : R64 n) (hL : CLst w a cs) :
    Calls Tryd.prog 41 #[.slice a len cap, .int .i64 n] w fun e w' => e = .returned (.bool (gooB cs n)) ∧ Below w.heap.size w w' := by
  have hm' : (len : Int) ≤ 1073741824 := by omega
  by_cases hlong : len ≤ 4096
  case neg =>
    have E := hide (gooB_long (cs := cs) (n := n) (by omega))
    have t : (4096 : Int) < (len : Int) := by omega
    go_enter Tryd.func41, Tryd.ntmps41
    go_wp2_with fail
    go_ret
    exact ⟨by rw [E.out]; rfl, Below.refl _ _⟩
  have t : ¬ (4096 : Int) < (len : Int) := by omega
  have HL := hide hL
  have HN := hide hl
  have HG := hide hn
  clear hL hl hm hn
  go_enter Tryd.func41, Tryd.ntmps41
  go_wp2_with fail
  go_loopw [5] (fun vi wr => ∃ (k : Nat), vi = .int .i64 k ∧ Hid (k ≤ len ∧ (∀ j, j < k → okB cs n j = true) ∧ Below w.heap.size w wr)) (fun vi _ => len - (intOf vi).toNat)
  case atStart => exact ⟨0, rfl, hide ⟨by omega, fun j hj => by omega, Below.refl _ _⟩⟩
  case round =>
    obtain ⟨k, rfl, HV⟩ := hrel
    obtain ⟨hk, hv, hb⟩ := HV.out
    have hk0 : (0 : Int) ≤ (k : Int) := by omega
    have HB := hide hb
    have HF := hide hv
    clear HV hv
    by_cases hlt : k < len
    case neg =>
      have hlt' : ¬ (k : Int) < (len : Int) := by omega
      have E : Hid (gooB cs n = true) := hide (gooB_iff.2 ⟨by have := HN.out; omega, fun i hi => HF.out i (by have := HN.out; omega)⟩)
      clear HF hb
      go_wp2_with fail
      go_ret
      exact ⟨by rw [E.out]; rfl, HB.out⟩
    have hlt' : (k : Int) < (len : Int) := by omega
    rcases HL.out with hz | ⟨b, o, rfl, hbl, hcell⟩
    · have := HN.out; rw [hz] at this; simp at this; omega
    obtain ⟨z0, z1, z2⟩ := hcell k (by have := HN.out; omega)
    rw [← hb.cell (p := ⟨b, _, none⟩) hbl] at z0 z1 z2
    have zb : b < wr.heap.size := Nat.lt_of_lt_of_le hbl hb.size
    have EB := hide (show okB cs n k = (fitB (cs.getD k c0) n && (decide (k = 0) || nxB (cs.getD (k - 1) c0) (cs.getD k c0))) from rfl)
    have ENO := hide (fun h => gooB_no (cs := cs) (n := n) (i := k) (by have := HN.out; omega) h)
    have EYES : Hid (okB cs n k = true → ∀ j, j < k + 1 → okB cs n j = true) := hide (fun h j hj => by
      rcases Nat.lt_or_ge j k with h' | h'
      · exact HF.out j h'
      · obtain rfl : j = k := by omega
        exact h)
    obtain ⟨x, hx⟩ : ∃ x, cs.getD k c0 = x := ⟨_, rfl⟩
    rw [hx] at z0 z1 z2 EB
    obtain ⟨f, l, g⟩ := x
    simp only at z0 z1 z2
    have HB2 := hide (HB.out.alloc HB.out.size (.cells #[.int .i64 f, .int .i64 l, .int .i64 g] 70))
    have EF : Hid (fitB ⟨f, l, g⟩ n = false → gooB cs n = false) := hide (fun h => ENO.out (by rw [EB.out, h]; rfl))
    obtain ⟨n0, n1⟩ := HG.out
    by_cases cc0 : l < f
    · have E := hide (EF.out (fitB_f.2 (by simp only; omega)))
      clear EB ENO EYES EF HF hcell hx hb n0 n1
      go_wp2_with fail
      go_ret
      exact ⟨by rw [E.out]; rfl, HB2.out⟩
    have d0 : decide (l < f) = false := by simp; omega
    by_cases cc1 : f < 0
    · have E := hide (EF.out (fitB_f.2 (by simp only; omega)))
      clear EB ENO EYES EF HF hcell hx hb n0 n1
      go_wp2_with fail
      go_ret
      exact ⟨by rw [E.out]; rfl, HB2.out⟩
    have d1 : decide (f < 0) = false := by simp; omega
    by_cases cc2 : 1114111 < l
    · have E := hide (EF.out (fitB_f.2 (by simp only; omega)))
      clear EB ENO EYES EF HF hcell hx hb n0 n1
      go_wp2_with fail
      go_ret
      exact ⟨by rw [E.out]; rfl, HB2.out⟩
    have d2 : decide (1114111 < l) = false := by simp; omega
    by_cases cc3 : f ≤ 57343
    case pos =>
      by_cases cc4 : 55296 ≤ l
      · have E := hide (EF.out (fitB_f.2 (by simp only; omega)))
        clear EB ENO EYES EF HF hcell hx hb n0 n1
        go_wp2_with fail
        go_ret
        exact ⟨by rw [E.out]; rfl, HB2.out⟩
      have d3 : decide (f ≤ 57343) = true := by simp; omega
      have d4 : decide (55296 ≤ l) = false := by simp; omega
      by_cases cc5 : g < 1
      · have E := hide (EF.out (fitB_f.2 (by simp only; omega)))
        clear EB ENO EYES EF HF hcell hx hb n0 n1
        go_wp2_with fail
        go_ret
        exact ⟨by rw [E.out]; rfl, HB2.out⟩
      have d5 : decide (g < 1) = false := by simp; omega
      by_cases cc6 : n ≤ g
      · have E := hide (EF.out (fitB_f.2 (by simp only; omega)))
        clear EB ENO EYES EF HF hcell hx hb n0 n1
        go_wp2_with fail
        go_ret
        exact ⟨by rw [E.out]; rfl, HB2.out⟩
      have d6 : decide (n ≤ g) = false := by simp; omega
      have m1 : wrap64 (l - f) = l - f := by unfold wrap64; omega
      have m2 : wrap64 (n - g) = n - g := by unfold wrap64; omega
      by_cases cc7 : n - g ≤ l - f
      · have E := hide (EF.out (fitB_f.2 (by simp only; omega)))
        clear EB ENO EYES EF HF hcell hx hb n0 n1
        go_wp2_with fail
        go_ret
        exact ⟨by rw [E.out]; rfl, HB2.out⟩
      have d7 : decide (n - g ≤ l - f) = false := by simp; omega
      have EG : Hid (fitB ⟨f, l, g⟩ n = true) := hide (fitB_t.2 (by simp only; omega))
      by_cases q0 : k = 0
      · have E := hide (EYES.out (by rw [EB.out, EG.out, decide_eq_true q0]; rfl))
        clear EB ENO EYES EF HF hcell hx hb n0 n1
        subst q0
        simp only [Nat.zero_mul, Nat.add_zero] at z0 z1 z2
        go_wp2_with fail
        go_quiet (fail)
        go_wp2_with fail
        go_roundw
        case rel => exact ⟨1, by go_num, hide ⟨by omega, E.out, below_drewN HB2.out _⟩⟩
        case measure => simp [intOf]; omega
      obtain ⟨j, hj⟩ : ∃ j, k = j + 1 := ⟨k - 1, by omega⟩
      obtain ⟨y0, y1, y2⟩ := hcell j (by have := HN.out; omega)
      have hok := HF.out j (by omega)
      unfold okB at hok
      rw [Bool.and_eq_true] at hok
      rw [show k - 1 = j by omega, decide_eq_false q0, Bool.false_or] at EB
      obtain ⟨y, hy⟩ : ∃ y, cs.getD j c0 = y := ⟨_, rfl⟩
      rw [hy] at y0 y1 y2 EB hok
      obtain ⟨f', l', g'⟩ := y
      simp only at y0 y1 y2
      have hfit := fitB_t.1 hok.1
      simp only at hfit
      obtain ⟨p0, p1, p2, _, p4, p5, p6⟩ := hfit
      have EV : Hid (okB cs n k = !(decide (f ≤ l') || goB ⟨f', l', g'⟩ f g)) := hide (by rw [EB.out, EG.out]; rfl)
      have k1 : IntKind.i64.wrap ((k : Int) - 1) = (j : Int) := by rw [IntKind.wrap_i64]; omega
      have k2 : decide ((0 : Int) < (k : Int)) = true := by simp; omega
      have k2' : (0 : Int) < (k : Int) := by omega
      have k2n : 0 < k := by omega
      have j0 : (0 : Int) ≤ (j : Int) := by omega
      have j1 : (j : Int) < (len : Int) := by omega
      have HK := hide hj
      rw [← HB2.out.cell (p := ⟨b, _, none⟩) hbl] at y0 y1 y2
      have zb1 : b < (wr.alloc (.cells #[.int .i64 f, .int .i64 l, .int .i64 g] 70)).heap.size := Nat.lt_of_lt_of_le hbl HB2.out.size
      by_cases q2 : f ≤ l'
      · have E := hide (ENO.out (by rw [EV.out, decide_eq_true q2]; rfl))
        clear EB ENO EYES EF EV HF hcell hx hb n0 n1 hy hok q0 p0 p1 p2 p4 p5 p6 hj
        go_wp2_with fail
        go_quiet (fail)
        go_wp2_with fail
        go_ret
        exact ⟨by rw [E.out]; rfl, below_drewN HB2.out _⟩
      have q2' : decide (f ≤ l') = false := by simp; omega
      have w1 : IntKind.i64.wrap (l' + 1) = l' + 1 := by rw [IntKind.wrap_i64]; omega
      by_cases q3 : f = l' + 1
      · obtain ⟨A, hA⟩ : ∃ A, IntKind.i64.wrap (g' + l') = A := ⟨_, rfl⟩
        obtain ⟨B, hBB⟩ : ∃ B, g' + l' - f' = B := ⟨_, rfl⟩
        have w2 : IntKind.i64.wrap (A - f') = B := by rw [← hA, ← hBB, IntKind.wrap_i64, IntKind.wrap_i64]; omega
        obtain ⟨C, hC⟩ : ∃ C, B + 1 = C := ⟨_, rfl⟩
        have w3 : IntKind.i64.wrap (B + 1) = C := by rw [← hC, IntKind.wrap_i64]; omega
        have q3' : (f == l' + 1) = true := by simpa using q3
        have EQ : Hid (okB cs n k = !(g == C)) := hide (by
          rw [EV.out, decide_eq_false q2, Bool.false_or]
          congr 1
          unfold goB
          rw [Bool.eq_iff_iff, decide_eq_true_iff, beq_iff_eq]
          exact ⟨fun h => by have := h.2; simp only at this; omega, fun h => ⟨q3, by simp only; omega⟩⟩)
        cases q4 : (g == C)
        · have E := hide (EYES.out (by rw [EQ.out, q4]; rfl))
          clear EB ENO EYES EF EV EQ HF hcell hx hb n0 n1 hy hok q0 p0 p1 p2 p4 p5 p6 hj q2 q3 hBB hC
          go_wp2_with fail
          go_quiet (fail)
          go_wp2_with fail
          go_roundw
          case rel => exact ⟨k + 1, by go_num, hide ⟨by omega, E.out, below_drewN HB2.out _⟩⟩
          case measure => simp [intOf]; omega
        · have E := hide (ENO.out (by rw [EQ.out, q4]; rfl))
          clear EB ENO EYES EF EV EQ HF hcell hx hb n0 n1 hy hok q0 p0 p1 p2 p4 p5 p6 hj q2 q3 hBB hC
          go_wp2_with fail
          go_quiet (fail)
          go_wp2_with fail
          go_ret
          exact ⟨by rw [E.out]; rfl, below_drewN HB2.out _⟩
      · have E := hide (EYES.out (by rw [EV.out, decide_eq_false q2, goB_f.2 (fun h => q3 h.1)]; rfl))
        have q3' : (f == l' + 1) = false := by simpa using q3
        clear EB ENO EYES EF EV HF hcell hx hb n0 n1 hy hok q0 p0 p1 p2 p4 p5 p6 hj q2 q3
        go_wp2_with fail
        go_quiet (fail)
        go_wp2_with fail
        go_roundw
        case rel => exact ⟨k + 1, by go_num, hide ⟨by omega, E.out, below_drewN HB2.out _⟩⟩
        case measure => simp [intOf]; omega
    case neg =>
      have d3 : decide (f ≤ 57343) = false := by simp; omega
      by_cases cc5 : g < 1
      · have E := hide (EF.out (fitB_f.2 (by simp only; omega)))
        clear EB ENO EYES EF HF hcell hx hb n0 n1
        go_wp2_with fail
        go_ret
        exact ⟨by rw [E.out]; rfl, HB2.out⟩
      have d5 : decide (g < 1) = false := by simp; omega
      by_cases cc6 : n ≤ g
      · have E := hide (EF.out (fitB_f.2 (by simp only; omega)))
        clear EB ENO EYES EF HF hcell hx hb n0 n1
        go_wp2_with fail
        go_ret
        exact ⟨by rw [E.out]; rfl, HB2.out⟩
      have d6 : decide (n ≤ g) = false := by simp; omega
      have m1 : wrap64 (l - f) = l - f := by unfold wrap64; omega
      have m2 : wrap64 (n - g) = n - g := by unfold wrap64; omega
      by_cases cc7 : n - g ≤ l - f
      · have E := hide (EF.out (fitB_f.2 (by simp only; omega)))
        clear EB ENO EYES EF HF hcell hx hb n0 n1
        go_wp2_with fail
        go_ret
        exact ⟨by rw [E.out]; rfl, HB2.out⟩
      have d7 : decide (n - g ≤ l - f) = false := by simp; omega
      have EG : Hid (fitB ⟨f, l, g⟩ n = true) := hide (fitB_t.2 (by simp only; omega))
      by_cases q0 : k = 0
      · have E := hide (EYES.out (by rw [EB.out, EG.out, decide_eq_true q0]; rfl))
        clear EB ENO EYES EF HF hcell hx hb n0 n1
        subst q0
        simp only [Nat.zero_mul, Nat.add_zero] at z0 z1 z2
        go_wp2_with fail
        go_quiet (fail)
        go_wp2_with fail
        go_roundw
        case rel => exact ⟨1, by go_num, hide ⟨by omega, E.out, below_drewN HB2.out _⟩⟩
        case measure => simp [intOf]; omega
      obtain ⟨j, hj⟩ : ∃ j, k = j + 1 := ⟨k - 1, by omega⟩
      obtain ⟨y0, y1, y2⟩ := hcell j (by have := HN.out; omega)
      have hok := HF.out j (by omega)
      unfold okB at hok
      rw [Bool.and_eq_true] at hok
      rw [show k - 1 = j by omega, decide_eq_false q0, Bool.false_or] at EB
      obtain ⟨y, hy⟩ : ∃ y, cs.getD j c0 = y := ⟨_, rfl⟩
      rw [hy] at y0 y1 y2 EB hok
      obtain ⟨f', l', g'⟩ := y
      simp only at y0 y1 y2
      have hfit := fitB_t.1 hok.1
      simp only at hfit
      obtain ⟨p0, p1, p2, _, p4, p5, p6⟩ := hfit
      have EV : Hid (okB cs n k = !(decide (f ≤ l') || goB ⟨f', l', g'⟩ f g)) := hide (by rw [EB.out, EG.out]; rfl)
      have k1 : IntKind.i64.wrap ((k : Int) - 1) = (j : Int) := by rw [IntKind.wrap_i64]; omega
      have k2 : decide ((0 : Int) < (k : Int)) = true := by simp; omega
      have k2' : (0 : Int) < (k : Int) := by omega
      have k2n : 0 < k := by omega
      have j0 : (0 : Int) ≤ (j : Int) := by omega
      have j1 : (j : Int) < (len : Int) := by omega
      have HK := hide hj
      rw [← HB2.out.cell (p := ⟨b, _, none⟩) hbl] at y0 y1 y2
      have zb1 : b < (wr.alloc (.cells #[.int .i64 f, .int .i64 l, .int .i64 g] 70)).heap.size := Nat.lt_of_lt_of_le hbl HB2.out.size
      by_cases q2 : f ≤ l'
      · have E := hide (ENO.out (by rw [EV.out, decide_eq_true q2]; rfl))
        clear EB ENO EYES EF EV HF hcell hx hb n0 n1 hy hok q0 p0 p1 p2 p4 p5 p6 hj
        go_wp2_with fail
        go_quiet (fail)
        go_wp2_with fail
        go_ret
        exact ⟨by rw [E.out]; rfl, below_drewN HB2.out _⟩
      have q2' : decide (f ≤ l') = false := by simp; omega
      have w1 : IntKind.i64.wrap (l' + 1) = l' + 1 := by rw [IntKind.wrap_i64]; omega
      by_cases q3 : f = l' + 1
      · obtain ⟨A, hA⟩ : ∃ A, IntKind.i64.wrap (g' + l') = A := ⟨_, rfl⟩
        obtain ⟨B, hBB⟩ : ∃ B, g' + l' - f' = B := ⟨_, rfl⟩
        have w2 : IntKind.i64.wrap (A - f') = B := by rw [← hA, ← hBB, IntKind.wrap_i64, IntKind.wrap_i64]; omega
        obtain ⟨C, hC⟩ : ∃ C, B + 1 = C := ⟨_, rfl⟩
        have w3 : IntKind.i64.wrap (B + 1) = C := by rw [← hC, IntKind.wrap_i64]; omega
        have q3' : (f == l' + 1) = true := by simpa using q3
        have EQ : Hid (okB cs n k = !(g == C)) := hide (by
          rw [EV.out, decide_eq_false q2, Bool.false_or]
          congr 1
          unfold goB
          rw [Bool.eq_iff_iff, decide_eq_true_iff, beq_iff_eq]
          exact ⟨fun h => by have := h.2; simp only at this; omega, fun h => ⟨q3, by simp only; omega⟩⟩)
        cases q4 : (g == C)
        · have E := hide (EYES.out (by rw [EQ.out, q4]; rfl))
          clear EB ENO EYES EF EV EQ HF hcell hx hb n0 n1 hy hok q0 p0 p1 p2 p4 p5 p6 hj q2 q3 hBB hC
          go_wp2_with fail
          go_quiet (fail)
          go_wp2_with fail
          go_roundw
          case rel => exact ⟨k + 1, by go_num, hide ⟨by omega, E.out, below_drewN HB2.out _⟩⟩
          case measure => simp [intOf]; omega
        · have E := hide (ENO.out (by rw [EQ.out, q4]; rfl))
          clear EB ENO EYES EF EV EQ HF hcell hx hb n0 n1 hy hok q0 p0 p1 p2 p4 p5 p6 hj q2 q3 hBB hC
          go_wp2_with fail
          go_quiet (fail)
          go_wp2_with fail
          go_ret
          exact ⟨by rw [E.out]; rfl, below_drewN HB2.out _⟩
      · have E := hide (EYES.out (by rw [EV.out, decide_eq_false q2, goB_f.2 (fun h => q3 h.1)]; rfl))
        have q3' : (f == l' + 1) = false := by simpa using q3
        clear EB ENO EYES EF EV HF hcell hx hb n0 n1 hy hok q0 p0 p1 p2 p4 p5 p6 hj q2 q3
        go_wp2_with fail
        go_quiet (fail)
        go_wp2_with fail
        go_roundw
        case rel => exact ⟨k + 1, by go_num, hide ⟨by omega, E.out, below_drewN HB2.out _⟩⟩
        case measure => simp [intOf]; omega
def fl3 (cs : List Ch) : List Int := cs.flatMap fun x => [x.f, x.l, x.g]
theorem fl3_len (cs : List Ch) : (fl3 cs).length = cs.length * 3 := by
  induction cs with
  | nil => rfl
  | cons x r ih => unfold fl3 at *; rw [List.flatMap_cons, List.length_append, ih]; simp; omega
theorem fl3_snoc (cs : List Ch) (x : Ch) : fl3 (cs ++ [x]) = fl3 cs ++ [x.f, x.l, x.g] := by unfold fl3; rw [List.flatMap_append]; simp
theorem fl3_set (cs : List Ch) (x : Ch) (c : Int) : (fl3 (cs ++ [x])).set (cs.length * 3 + 1) c = fl3 (cs ++ [⟨x.f, c, x.g⟩]) := by
  rw [fl3_snoc, fl3_snoc, List.set_append_right _ _ (by rw [fl3_len]; omega), fl3_len, show cs.length * 3 + 1 - cs.length * 3 = 1 by omega]
  rfl
theorem fl3_at (cs : List Ch) : ∀ i, i < cs.length → (fl3 cs).getD (i * 3) 0 = (cs.getD i c0).f ∧ (fl3 cs).getD (i * 3 + 1) 0 = (cs.getD i c0).l ∧ (fl3 cs).getD (i * 3 + 2) 0 = (cs.getD i c0).g := by
  induction cs with
  | nil => intro i h; simp at h
  | cons x r ih =>
    intro i h
    have e : fl3 (x :: r) = x.f :: x.l :: x.g :: fl3 r := by unfold fl3; rw [List.flatMap_cons]; rfl
    rw [e]
    cases i with
    | zero => exact ⟨rfl, rfl, rfl⟩
    | succ i =>
      obtain ⟨h1, h2, h3⟩ := ih i (by simpa using h)
      rw [show (i + 1) * 3 = i * 3 + 1 + 1 + 1 by omega, show i * 3 + 1 + 1 + 1 + 1 = i * 3 + 1 + 1 + 1 + 1 from rfl, show i * 3 + 1 + 1 + 1 + 2 = i * 3 + 2 + 1 + 1 + 1 by omega]
      simp only [List.getD_cons_succ]
      exact ⟨h1, h2, h3⟩
def CRow (w : World) (B : Nat) (v : Value) (cs : List Ch) : Prop := w.ownsRow B 70 3 v cs.length ((fl3 cs).map (Value.int .i64))
theorem CRow.nil (w : World) (B : Nat) : CRow w B (.slice none 0 0) [] := World.ownsRow_nil _ _ _ _
theorem info_ch : (Tryd.prog.info? 70).map (fun i => (i.zero, i.size, i.bytes)) = some (some (.agg #[.int .i64 0, .int .i64 0, .int .i64 0]), 3, 24) := by kernel_rfl
theorem CRow.shape {w : World} {B : Nat} {v : Value} {cs : List Ch} (h : CRow w B v cs) (h0 : 0 < cs.length) : ∃ g cap, v = .slice (some ⟨g, 0, none⟩) cs.length cap ∧ B ≤ g ∧ g < w.heap.size := by
  have h' := h
  obtain ⟨_, ⟨_, h1⟩ | ⟨g, cap, cur, hv, hg, hh, hc, hm, _⟩⟩ := h'
  · omega
  · rw [hv] at h
    exact ⟨g, cap, hv, hg, (World.ownsRow.lt h g rfl).2⟩
theorem CRow.emp {w : World} {B : Nat} {v : Value} (h : CRow w B v []) : ∃ a cap, v = .slice a 0 cap := by
  obtain ⟨_, ⟨h0, h1⟩ | ⟨g, cap, cur, hv, _⟩⟩ := h
  · exact ⟨none, 0, h0⟩
  · exact ⟨_, cap, hv⟩
theorem CRow.cell {w : World} {B g n cap : Nat} {cs : List Ch} (h : CRow w B (.slice (some ⟨g, 0, none⟩) n cap) cs) (hn : cs.length = n) (i : Nat) (hi : i < n) :
    (w.cell? ⟨g, i * 3, none⟩ = some (.int .i64 (cs.getD i c0).f) ∧ w.cell? ⟨g, i * 3 + 1, none⟩ = some (.int .i64 (cs.getD i c0).l) ∧ w.cell? ⟨g, i * 3 + 2, none⟩ = some (.int .i64 (cs.getD i c0).g)) ∧ w.frozen? ⟨g, i * 3 + 1, none⟩ = false := by
  subst hn
  obtain ⟨e0, e1, e2⟩ := fl3_at cs i hi
  have hc : ∀ j, j < cs.length * 3 → w.cell? ⟨g, j, none⟩ = some (.int .i64 ((fl3 cs).getD j 0)) := fun j hj => by
    have hl : j < (fl3 cs).length := by rw [fl3_len]; exact hj
    rw [World.ownsRow.cellAt h j hj, List.getElem?_map, List.getElem?_eq_getElem hl, List.getD_eq_getElem?_getD, List.getElem?_eq_getElem hl]
    rfl
  exact ⟨⟨by rw [hc _ (by omega), e0], by rw [hc _ (by omega), e1], by rw [hc _ (by omega), e2]⟩, World.ownsRow.frozenAt h _⟩
theorem CRow.lst {w : World} {B : Nat} {v : Value} {cs : List Ch} (h : CRow w B v cs) : ∃ a cap, v = .slice a cs.length cap ∧ CLst w a cs := by
  by_cases h0 : 0 < cs.length
  · obtain ⟨g, cap, rfl, hg, hl⟩ := h.shape h0
    refine ⟨_, cap, rfl, Or.inr ⟨g, 0, rfl, hl, fun i hi => ?_⟩⟩
    rw [Nat.zero_add]
    exact (h.cell rfl i hi).1
  · have e : cs = [] := List.eq_nil_of_length_eq_zero (by omega)
    subst e
    obtain ⟨a, cap, rfl⟩ := h.emp
    exact ⟨a, cap, rfl, Or.inl rfl⟩
theorem CRow.stored {w : World} {B g n cap : Nat} {cs : List Ch} (x : Ch) (c : Int) (h : CRow w B (.slice (some ⟨g, 0, none⟩) n cap) (cs ++ [x])) (hn : (cs ++ [x]).length = n) : CRow (w.setCell ⟨g, cs.length * 3 + 1, none⟩ (.int .i64 c)) B (.slice (some ⟨g, 0, none⟩) n cap) (cs ++ [⟨x.f, c, x.g⟩]) := by
  subst hn
  have := (World.ownsRow.stored h (cs.length * 3 + 1) (.int .i64 c)).1
  unfold CRow
  rw [← fl3_set cs x c, List.map_set]
  have e : (cs ++ [(⟨x.f, c, x.g⟩ : Ch)]).length = (cs ++ [x]).length := by simp
  rw [e]
  exact this
theorem CRow.kept {w w' : World} {B : Nat} {v : Value} {cs : List Ch} (h : CRow w B v cs) (hk : ∀ k, B ≤ k → k < w.heap.size → w'.heap[k]? = w.heap[k]?) : CRow w' B v cs := ownsRow_kept h hk
end Go.Proofs.YthnpnkiomknkeaaDoor.C11
