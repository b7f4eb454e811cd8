/-
  The law GlyphSplits, walked; its argument opened.
-/
import Derived.Test.YtcbmjoocehhhnaaDoorG10Rs
import Derived.ProofKit
import Derived.OpenShut
import Derived.Lib.SmallJoins
namespace Go.Proofs.YtcbmjoocehhhnaaDoor
open Go.RowKit Go.Deep
set_option linter.unusedVariables false
set_option linter.unusedSimpArgs false

set_option maxRecDepth 8000 in
set_option maxHeartbeats 4000000 in
theorem splits_walk (l g : ByteArray) (n : Int) (lg : Bool) (w : World) (hl : l.size ≤ 9223372036854775807) (hg : g.size ≤ 9223372036854775807) (hn0 : -9223372036854775808 ≤ n) (hn1 : n ≤ 9223372036854775807) :
    Calls Tryd.prog 3 #[.agg #[.string l, .string g, .int .i64 n, .bool lg]] w fun e w' => e = .returned (.bool true) ∧ Below w.heap.size w w' := by
  have CWk := hide wakes_any
  have HB := hide ((Below.refl w.heap.size w).alloc (Nat.le_refl _) (.cells #[.string l, .string g, .int .i64 n, .bool lg] 23))
  have HK := hide (Blk.new w #[.string l, .string g, .int .i64 n, .bool lg] 23)
  by_cases h1 : 20000 < l.size
  · have h1' : (20000 : Int) < (l.size : Int) := by omega
    have h1d : decide ((20000 : Int) < (l.size : Int)) = true := by simpa using h1'
    go_enter Tryd.func3, Tryd.ntmps3
    go_wp2_with fail
    refine (CWk.out _).mono ?_
    rintro e w1 ⟨rfl, h1⟩
    have H1 := hide (below_t5 HB.out h1)
    clear h1
    go_wp2_with fail
    go_ret
    exact ⟨rfl, H1.out⟩
  have h1' : ¬ (20000 : Int) < (l.size : Int) := by omega
  have h1d : decide ((20000 : Int) < (l.size : Int)) = false := by simpa using h1'
  by_cases h2 : 20000 < g.size
  · have h2' : (20000 : Int) < (g.size : Int) := by omega
    have h2d : decide ((20000 : Int) < (g.size : Int)) = true := by simpa using h2'
    go_enter Tryd.func3, Tryd.ntmps3
    go_wp2_with fail
    refine (CWk.out _).mono ?_
    rintro e w1 ⟨rfl, h1⟩
    have H1 := hide (below_t5 HB.out h1)
    clear h1
    go_wp2_with fail
    go_ret
    exact ⟨rfl, H1.out⟩
  have h2' : ¬ (20000 : Int) < (g.size : Int) := by omega
  have h2d : decide ((20000 : Int) < (g.size : Int)) = false := by simpa using h2'
  have CS := hide (fun w => split_any l g n lg w (by omega) (by omega) hn0 hn1)
  have CR := hide (fun w => rsplit_any l g n lg w (by omega) (by omega) hn0 hn1)
  have hbd : splB l.data.toList g.size n lg = true → n.toNat ≤ 4096 := fun h => by
    unfold splB at h
    rw [Bool.and_eq_true] at h
    have := h.1
    simp at this
    omega
  have hlv := splV_len l.data.toList g n.toNat lg
  have HLV := hide hlv
  clear hlv hl hg hn0 hn1
  unfold SpR at CS
  unfold RsR at CR
  generalize splV l.data.toList g n.toNat lg = zs at CS CR HLV
  cases hsb : splB l.data.toList g.size n lg
  case false =>
    rw [hsb] at CS CR
    clear hbd hsb HLV
    go_enter Tryd.func3, Tryd.ntmps3
    go_upto_region 1 with (fail)
    generalize w.alloc (.cells #[.string l, .string g, .int .i64 n, .bool lg] 23) = V at HB HK ⊢
    generalize hbx : w.heap.size = bx at HB HK ⊢
    have HBX := hide hbx
    clear hbx
    have c0 : V.cell? ⟨bx, 0, none⟩ = some (.string l) := HK.out.cell 0
    have c1 : V.cell? ⟨bx, 1, none⟩ = some (.string g) := HK.out.cell 1
    have c2 : V.cell? ⟨bx, 2, none⟩ = some (.int .i64 n) := HK.out.cell 2
    have c3 : V.cell? ⟨bx, 3, none⟩ = some (.bool lg) := HK.out.cell 3
    go_wp2_with fail
    refine (CS.out _).mono ?_
    rintro e w1 ⟨rfl, h3⟩
    have HV := hide h3
    have HK1 := hide (HK.out.below h3)
    clear c0 c1 c2 c3 h3
    have c0 : w1.cell? ⟨bx, 0, none⟩ = some (.string l) := HK1.out.cell 0
    have c1 : w1.cell? ⟨bx, 1, none⟩ = some (.string g) := HK1.out.cell 1
    have c2 : w1.cell? ⟨bx, 2, none⟩ = some (.int .i64 n) := HK1.out.cell 2
    have c3 : w1.cell? ⟨bx, 3, none⟩ = some (.bool lg) := HK1.out.cell 3
    go_wp2_with fail
    refine (CR.out _).mono ?_
    rintro e w2 ⟨rfl, h3⟩
    replace HV := hide (below_t5 HV.out h3)
    clear c0 c1 c2 c3 h3
    go_wp2_with fail
    refine (ktexts_any none none 0 0 0 [] _ rfl (by omega) (Or.inl rfl) (Or.inl rfl)).mono ?_
    rintro e w3 ⟨rfl, m3, h3⟩
    replace HV : Hid (Below V.heap.size V w3) := hide (by rw [h3]; exact below_drewN HV.out m3)
    clear h3
    go_wp2_with fail
    refine (CWk.out _).mono ?_
    rintro e w4 ⟨rfl, h3⟩
    replace HV := hide (below_t5 HV.out h3)
    clear h3
    go_wp2_with fail
    go_ret
    exact ⟨rfl, by rw [HBX.out]; exact HB.out.trans (HV.out.mono (Nat.le_of_lt HK.out.lt))⟩
  case true =>
    have hnb := hbd hsb
    rw [hsb] at CS CR
    generalize n.toNat = k at CS hnb HLV
    clear hbd hsb
    go_enter Tryd.func3, Tryd.ntmps3
    go_upto_region 1 with (fail)
    generalize w.alloc (.cells #[.string l, .string g, .int .i64 n, .bool lg] 23) = V at HB HK ⊢
    generalize hbx : w.heap.size = bx at HB HK ⊢
    have HBX := hide hbx
    clear hbx
    have c0 : V.cell? ⟨bx, 0, none⟩ = some (.string l) := HK.out.cell 0
    have c1 : V.cell? ⟨bx, 1, none⟩ = some (.string g) := HK.out.cell 1
    have c2 : V.cell? ⟨bx, 2, none⟩ = some (.int .i64 n) := HK.out.cell 2
    have c3 : V.cell? ⟨bx, 3, none⟩ = some (.bool lg) := HK.out.cell 3
    go_wp2_with fail
    refine (CS.out _).mono ?_
    rintro e w1 ⟨q, rfl, hq, h3⟩
    have HV := hide h3
    have HQ := hide hq
    have HK1 := hide (HK.out.below h3)
    clear c0 c1 c2 c3 h3 hq
    have c0 : w1.cell? ⟨bx, 0, none⟩ = some (.string l) := HK1.out.cell 0
    have c1 : w1.cell? ⟨bx, 1, none⟩ = some (.string g) := HK1.out.cell 1
    have c2 : w1.cell? ⟨bx, 2, none⟩ = some (.int .i64 n) := HK1.out.cell 2
    have c3 : w1.cell? ⟨bx, 3, none⟩ = some (.bool lg) := HK1.out.cell 3
    go_wp2_with fail
    refine (CR.out _).mono ?_
    rintro e w2 ⟨v, rfl, hr, h3⟩
    obtain ⟨ad, cap, hv, hs⟩ := hr.lst
    rw [HLV.out] at hv
    subst hv
    have HQ2 := hide (HQ.out.below h3)
    have HS2 := hide hs
    replace HV := hide (below_t5 HV.out h3)
    clear c0 c1 c2 c3 h3 hr hs
    go_wp2_with fail
    refine (ktexts_any _ _ k _ _ zs _ HLV.out (by omega) HQ2.out HS2.out).mono ?_
    rintro e w3 ⟨rfl, m3, h3⟩
    replace HV : Hid (Below V.heap.size V w3) := hide (by rw [h3]; exact below_drewN HV.out m3)
    clear h3
    go_wp2_with fail
    refine (CWk.out _).mono ?_
    rintro e w4 ⟨rfl, h3⟩
    replace HV := hide (below_t5 HV.out h3)
    clear h3
    go_wp2_with fail
    go_ret
    exact ⟨rfl, by rw [HBX.out]; exact HB.out.trans (HV.out.mono (Nat.le_of_lt HK.out.lt))⟩
section
open Go.ChangeShapes Go.WideShapes Go.Joins
variable {H : Type} {enc : TypeId × Value → H} {W : World} {r : Reach} {base b0 : Nat} {sp : Nat → Bool} {held : Bool} {v : Value} {d : DataW H} {p : List MemPlace}
theorem cells_tbl : Tryd.prog.cellsOf 23 = 4 := by kernel_rfl
set_option maxRecDepth 100000 in
theorem open_tbl (hv : Value.okWide Tryd.prog W r b0 23 v) (h : DataW.Trod enc Tryd.prog W base sp held 23 v d p) :
    ∃ l g n lg, v = .agg #[.string l, .string g, .int .i64 n, .bool lg] ∧ l.size ≤ 9223372036854775807 ∧ g.size ≤ 9223372036854775807 ∧ -9223372036854775808 ≤ n ∧ n ≤ 9223372036854775807 := by
  obtain ⟨c0, c1, c2, c3, y0, y1, y2, y3, m, rfl, _, _, t0, t1, t2, t3⟩ := open_agg4 Tryd.underlying23 (by kernel_rfl) cells_tbl hv h
  obtain ⟨s, e0, _, h0⟩ := DataW.trod_string Tryd.underlying9 t0
  obtain ⟨t, e1, _, h1⟩ := DataW.trod_string Tryd.underlying9 t1
  obtain ⟨a, e2, _, wa⟩ := DataW.trod_int Tryd.underlying3 t2
  obtain ⟨lg, e3, _⟩ := DataW.trod_bool Tryd.underlying4 t3
  simp only [List.cons.injEq, and_true] at e0 e1 e2 e3
  subst e0 e1 e2 e3
  unfold maxLen at h0 h1
  exact ⟨s, t, a, lg, rfl, h0, h1, (bounds_i64 wa).1, (bounds_i64 wa).2⟩
end
end Go.Proofs.YtcbmjoocehhhnaaDoor
