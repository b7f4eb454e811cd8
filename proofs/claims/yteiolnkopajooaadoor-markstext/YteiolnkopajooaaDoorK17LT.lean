/-
  The law MarksText.
-/
import Derived.Test.YteiolnkopajooaaDoorK17Tp
import Derived.Test.YteiolnkopajooaaDoorK17Wk
import Derived.Test.YteiolnkopajooaaDoorK17Glo
import Derived.Test.YteiolnkopajooaaDoorU4Glo
import Derived.Test.YteiolnkopajooaaDoorU4RDec
import Derived.Laws.Concat
namespace Go.Proofs.YteiolnkopajooaaDoor.K17
open Go.RowKit Go.Proofs.YteiolnkopajooaaDoor
open Go.Lib
set_option linter.unusedVariables false
set_option linter.unusedSimpArgs false
set_option maxRecDepth 8000

theorem cat17 (a b : ByteArray) (x y : List UInt8) (ha : a.data.toList = x) (hb : b.data.toList = y) (h : x.length + y.length ≤ 1000000) : ∃ P : ByteArray, (∀ w, (Op.stringOp .add a b).run Tryd.prog w = .ok (.string P) w) ∧ P.data.toList = x ++ y :=
  ⟨a ++ b, fun w => run_string_add_sum w a b (by have := size_l a; have := size_l b; rw [ha] at *; rw [hb] at *; omega), by rw [ByteArray.data_append, Array.toList_append, ha, hb]⟩
/- the cells that the law looks at -/
theorem tx_head {w : World} {a : Option Addr} {t : Tk} {ts : List Tk} {y l : List UInt8} (h : TLs w a (t :: ts)) (ht : t.ps = [(y, l)]) : ∃ b o ab ao ac, a = some ⟨b, o, none⟩ ∧ w.cell? ⟨b, o + 3, none⟩ = some (.slice (some ⟨ab, ao, none⟩) 1 ac) ∧ w.cell? ⟨ab, ao + 1, none⟩ = some (.string ⟨l.toArray⟩) := by
  rcases h with h | ⟨b, o, rfl, hb, hc⟩
  · simp at h
  · obtain ⟨aa, ac, hA, _, _, _, _, c3, _⟩ := hc 0 (by simp)
    simp only [List.getD_cons_zero, Nat.zero_mul, Nat.add_zero] at c3 hA
    rw [ht] at c3 hA
    rcases hA with hA | ⟨ab, ao, rfl, _, hq⟩
    · simp at hA
    · obtain ⟨_, q1⟩ := hq 0 (by simp)
      exact ⟨b, o, ab, ao, ac, rfl, c3, by simpa using q1⟩
theorem tx_cells {w : World} {a : Option Addr} {ts : List Tk} {k : Int} {x tt y l : List UInt8} {p : Nat} (h : TLs w a (⟨k, x, tt, [(y, l)], p⟩ :: ts)) : ∃ b o ab ao ac, a = some ⟨b, o, none⟩ ∧ w.cell? ⟨b, o + 3, none⟩ = some (.slice (some ⟨ab, ao, none⟩) 1 ac) ∧ w.cell? ⟨ab, ao + 1, none⟩ = some (.string ⟨l.toArray⟩) := tx_head h rfl
theorem tx_cells3 {w : World} {a : Option Addr} {ts : List Tk} {k k2 : Int} {x tt y l x2 t2 : List UInt8} {ps2 : List At} {p p2 : Nat} (h : TLs w a (⟨k, x, tt, [(y, l)], p⟩ :: ⟨k2, x2, t2, ps2, p2⟩ :: ts)) : ∃ b o ab ao ac, a = some ⟨b, o, none⟩ ∧ w.cell? ⟨b, o + 3, none⟩ = some (.slice (some ⟨ab, ao, none⟩) 1 ac) ∧ w.cell? ⟨ab, ao + 1, none⟩ = some (.string ⟨l.toArray⟩) ∧ w.cell? ⟨b, o + 5 + 2, none⟩ = some (.string ⟨t2.toArray⟩) := by
  obtain ⟨b, o, ab, ao, ac, rfl, p3, v1⟩ := tx_head h rfl
  refine ⟨b, o, ab, ao, ac, rfl, p3, v1, ?_⟩
  rcases h with h | ⟨b', o', he, hb, hc⟩
  · simp at h
  · injection he with he
    injection he with e1 e2 _
    subst e1; subst e2
    obtain ⟨aa, ac', hA, _, _, _, c2, _, _⟩ := hc 1 (by simp)
    simpa using c2
set_option maxHeartbeats 4000000 in
theorem text_walk (s : ByteArray) (w : World) (hg : Glo w) (hm : MX w) (hz : s.size ≤ maxLen) : Calls Tryd.prog 7 #[.string s] w fun e w' => e = .returned (.bool true) ∧ Below w.heap.size w w' := by
  have hz' : (s.size : Int) ≤ 9223372036854775807 := by unfold maxLen at hz; omega
  have CW := hide (fun w' (h : Below w.heap.size w w') => wakes_any w' (hg.below h) (hm.below h))
  by_cases h3 : s.size ≤ 3333
  · have h3' : ¬ (3333 : Int) < (s.size : Int) := by omega
    have CE := escape_fn s w hg (by omega)
    have CZ := hide (fun x w' (h : Below w.heap.size w w') (hx : x.size ≤ 65536) => scan_any x w' (hg.below h) (hm.below h) hx)
    unfold escV at CE
    cases hv : Lib.validD s.data.toList with
    | false =>
      rw [hv, if_pos rfl] at CE
      have CE := hide CE
      clear hg hm hz h3 hv
      go_enter Tryd.func7, Tryd.ntmps7
      go_wp2_with (first
        | (go_at_call 17; refine CE.out.mono ?_; rintro e w1 ⟨rfl, h1⟩; have H1 := hide h1; clear h1)
        | (go_at_call 9; refine (CW.out _ H1.out).mono ?_; rintro e w4 ⟨rfl, hb4⟩))
      go_ret
      exact ⟨rfl, H1.out.trans (hb4.mono H1.out.size)⟩
    | true =>
      rw [hv, if_neg (by simp)] at CE
      cases hh : hc s.data.toList with
      | true =>
        rw [hh, if_pos rfl] at CE
        have CE := hide CE
        clear hg hm hz h3 hv hh
        go_enter Tryd.func7, Tryd.ntmps7
        go_wp2_with (first
          | (go_at_call 17; refine CE.out.mono ?_; rintro e w1 ⟨rfl, h1⟩; have H1 := hide h1; clear h1)
          | (go_at_call 9; refine (CW.out _ H1.out).mono ?_; rintro e w4 ⟨rfl, hb4⟩))
        go_ret
        exact ⟨rfl, H1.out.trans (hb4.mono H1.out.size)⟩
      | false =>
        rw [hh, if_neg (by simp)] at CE
        have hvt := (valid_iff _).1 hv
        have hsc := sc_tx hvt hh
        have hel := esc_len s.data.toList
        rw [size_l] at hel
        obtain ⟨⟨ZS, P, E⟩, hrd⟩ : ∃ r, rd st8 s.data.toList 0 = r := ⟨_, rfl⟩
        have CD := hide (fun w => rdecode_core s w (by omega) ZS P E hrd)
        obtain ⟨_, q2⟩ := rd_vt s.data.toList
        rw [hrd] at q2
        obtain rfl : E = 0 := q2.2 hvt
        obtain ⟨T, hT⟩ : ∃ T, esc s.data.toList = T := ⟨_, rfl⟩
        rw [hT] at CE hsc hel
        obtain ⟨X, hX⟩ : ∃ X : ByteArray, (⟨T.toArray⟩ : ByteArray) = X := ⟨_, rfl⟩
        rw [hX] at CE
        have hXl : X.data.toList = T := by rw [← hX]
        obtain ⟨A1, c1, d1⟩ := cat17 ⟨#[60, 112, 32, 120, 32, 61, 32, 34]⟩ X [60, 112, 32, 120, 32, 61, 32, 34] T rfl hXl (by simp; omega)
        obtain ⟨A2, c2, d2⟩ := cat17 A1 ⟨#[34, 32, 62]⟩ _ [34, 32, 62] d1 rfl (by simp; omega)
        obtain ⟨A3, c3, d3⟩ := cat17 A2 X _ T d2 hXl (by simp; omega)
        obtain ⟨A4, c4, d4⟩ := cat17 A3 ⟨#[60, 47, 112, 32, 62]⟩ _ [60, 47, 112, 32, 62] d3 rfl (by simp; omega)
        have hA : A4.data.toList = txB T := by rw [d4]; simp [txB]
        have HAZ := hide (show A4.size ≤ 65536 by rw [← size_l, hA]; simp [txB]; omega)
        have CE := hide CE
        rw [← hA] at hsc
        have HX := hide hX
        clear hg hm hz h3 hv hh hvt hel hrd q2 hT hX d1 d2 d3 d4 hA hXl
        have hsl : (⟨s.data.toList.toArray⟩ : ByteArray) = s := by rw [str_eq]
        have s1 : (s.toList == s.toList) = true := by simp
        by_cases hl : s.data.toList = []
        · rw [if_pos hl] at hsc
          have HSC := hide hsc
          have HSL := hide hsl
          have hne : (s.toList == ([] : List UInt8)) = true := by rw [beq_iff_eq, ByteArray.toList_eq]; exact hl
          clear hsc hl hsl
          go_enter Tryd.func7, Tryd.ntmps7
          go_wp2_with (first
            | (go_at_call 17; refine CE.out.mono ?_; rintro e w1 ⟨rfl, h1⟩; have H1 := hide h1; clear h1)
            | (go_at_call 10; refine (CZ.out _ _ H1.out HAZ.out).mono ?_; rw [HSC.out]; rintro e w2 ⟨v, rfl, h1, h2⟩; obtain ⟨a, c, rfl, hL, hc1, hc2⟩ := h1.lst; have HL := hide hL; have H2 := hide (H1.out.trans (h2.mono H1.out.size)); have HC := hide hc1; clear h1 h2 hL hc1 hc2)
            | (go_at_call 20; refine (CD.out _).mono ?_; rintro e w3 ⟨vd, rfl, h1, h2⟩; obtain ⟨b, o, ab, ao, ac, rfl, p3, v1⟩ := tx_cells (HL.out.below h2); rw [show (⟨s.data.toList.toArray⟩ : ByteArray) = s from str_eq.2 rfl] at v1; have H3 := hide (H2.out.trans (h2.mono H2.out.size)); clear h1 h2)
            | (go_at_call 9; refine (CW.out _ H3.out).mono ?_; rintro e w4 ⟨rfl, hb4⟩))
          go_ret
          exact ⟨rfl, H3.out.trans (hb4.mono H3.out.size)⟩
        · rw [if_neg hl] at hsc
          have HSC := hide hsc
          have HSL := hide hsl
          have hne : (s.toList == ([] : List UInt8)) = false := by rw [beq_eq_false_iff_ne, ByteArray.toList_eq]; exact hl
          clear hsc hl hsl
          go_enter Tryd.func7, Tryd.ntmps7
          go_wp2_with (first
            | (go_at_call 17; refine CE.out.mono ?_; rintro e w1 ⟨rfl, h1⟩; have H1 := hide h1; clear h1)
            | (go_at_call 10; refine (CZ.out _ _ H1.out HAZ.out).mono ?_; rw [HSC.out]; rintro e w2 ⟨v, rfl, h1, h2⟩; obtain ⟨a, c, rfl, hL, hc1, hc2⟩ := h1.lst; have HL := hide hL; have H2 := hide (H1.out.trans (h2.mono H1.out.size)); have HC := hide hc1; clear h1 h2 hL hc1 hc2)
            | (go_at_call 20; refine (CD.out _).mono ?_; rintro e w3 ⟨vd, rfl, h1, h2⟩; obtain ⟨b, o, ab, ao, ac, rfl, p3, v1, p7⟩ := tx_cells3 (HL.out.below h2); rw [show (⟨s.data.toList.toArray⟩ : ByteArray) = s from str_eq.2 rfl] at v1 p7; have H3 := hide (H2.out.trans (h2.mono H2.out.size)); clear h1 h2)
            | (go_at_call 9; refine (CW.out _ H3.out).mono ?_; rintro e w4 ⟨rfl, hb4⟩))
          go_ret
          exact ⟨rfl, H3.out.trans (hb4.mono H3.out.size)⟩
  · have h3' : (3333 : Int) < (s.size : Int) := by omega
    clear hg hm hz h3
    go_enter Tryd.func7, Tryd.ntmps7
    go_wp2_with (go_at_call 9; refine (CW.out _ (Below.refl _ _)).mono ?_; rintro e w4 ⟨rfl, hb4⟩)
    go_ret
    exact ⟨rfl, hb4⟩
end Go.Proofs.YteiolnkopajooaaDoor.K17
