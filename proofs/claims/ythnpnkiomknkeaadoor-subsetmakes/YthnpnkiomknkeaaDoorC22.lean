/-
  Joined: F12E, F12Sh, F12S, F12V, F12Q.
-/
import Derived.Deep.AppendSrc
import Derived.Deep.CutRange
import Derived.Test.YthnpnkiomknkeaaDoorC08
import Derived.Test.YthnpnkiomknkeaaDoorC18
import Derived.Test.YthnpnkiomknkeaaDoorC21
namespace Go.Proofs.YthnpnkiomknkeaaDoor.F12
open Go.RowKit Go.Deep
set_option linter.unusedVariables false
set_option linter.unusedSimpArgs false
def ckV (m : Mt) (gs : List ByteArray) (cs : List C11.Ch) : Int :=
  if goodB m then (if gs.length = m.ad.length then (match cpV gs with | none => 100 | some pss => if deepB pss then 101 else if C11.gooB cs (gs.length : Int) then 0 else 110) else 100) else 90
theorem cp_bd {gs : List ByteArray} {pss : List (List Nat)} (h : cpV gs = some pss) : pss.length = gs.length ∧ ∀ ps ∈ pss, ps.length ≤ 1000000 ∧ ∀ p ∈ ps, p < gs.length := by
  unfold cpV at h
  split at h
  · rename_i ho
    injection h with h
    subst h
    refine ⟨by simp, fun ps hps => ?_⟩
    obtain ⟨i, hi, rfl⟩ := List.mem_map.1 hps
    unfold okC at ho
    have h1 := List.all_eq_true.1 ho i hi
    obtain ⟨q, hq⟩ := Option.isSome_iff_exists.1 h1
    have e : qf gs i = q := by unfold qf; rw [hq]; rfl
    rw [e]
    refine ⟨?_, gp_bd hq⟩
    unfold gpV at hq
    split at hq
    · rename_i r ps hs
      split at hq
      · injection hq with hq
        rw [← hq]
        unfold G10.prV
        rw [List.length_map]
        have := (G10.shV_bd hs).2.2
        omega
      · cases hq
    · cases hq
  · cases h
set_option maxRecDepth 8000 in
set_option maxHeartbeats 8000000 in
theorem check_any (m : Mt) (aa ab ga ca : Option Addr) (na nb ng nc ka kb kg kc : Nat) (gs : List ByteArray) (cs : List C11.Ch) (w : World) (hna : m.ad.length = na) (hnb : m.be.length = nb) (hng : gs.length = ng) (hnc : cs.length = nc) (hma : na ≤ 1000000) (hmb : nb ≤ 1000000) (hmg : ng ≤ 1000000) (hmc : nc ≤ 1000000) (hz : ∀ g ∈ gs, g.size ≤ 1000000) (hA : Lst w aa m.ad) (hB : Lst w ab m.be) (hG : G10.SLst w ga gs) (hC : C11.CLst w ca cs) :
    Calls Tryd.prog 18 #[.agg (fcs m (.slice aa na ka) (.slice ab nb kb) (.slice ga ng kg) (.slice ca nc kc))] w fun e w' => e = .returned (.int .i64 (ckV m gs cs)) ∧ Below w.heap.size w w' := by
  have hma' : (na : Int) ≤ 1000000 := by omega
  have hmg' : (ng : Int) ≤ 1000000 := by omega
  have bw := (Below.refl w.heap.size w).alloc (Nat.le_refl _) (.cells (fcs m (.slice aa na ka) (.slice ab nb kb) (.slice ga ng kg) (.slice ca nc kc)) 29)
  have k1 := Blk.new w (fcs m (.slice aa na ka) (.slice ab nb kb) (.slice ga ng kg) (.slice ca nc kc)) 29
  have CG := hide (good_any m aa ab na nb ka kb _ hna hnb hma hmb (hA.below bw) (hB.below bw))
  have CP := hide (fun (u : World) (hu : Below w.heap.size w u) (h : ng ≤ 4096) => comp_any ga ng kg gs u hng h hz (hG.below hu))
  have CD := hide (fun (p : Option Addr) (c : Nat) (pss : List (List Nat)) (u : World) (h1 : 1 ≤ ng) (h2 : ng ≤ 4096) (hp : cpV gs = some pss) (hL : PLst u p pss) => tooDeep_any p ng c pss u (by rw [(cp_bd hp).1]; exact hng) h1 h2 (by rw [← hng]; exact (cp_bd hp).2) hL)
  have CC := hide (fun (u : World) (hu : Below w.heap.size w u) => C11.good_any ca cs nc kc (ng : Int) u hnc (by omega) ⟨by omega, by omega⟩ (hC.below hu))
  have HIN := hide (fun h : goodB m = true => good_in h)
  have E := hide (show ckV m gs cs = if goodB m then (if ng = na then (match cpV gs with | none => 100 | some pss => if deepB pss then 101 else if C11.gooB cs (ng : Int) then 0 else 110) else 100) else 90 by unfold ckV; rw [hna, hng])
  have HNA := hide hna
  generalize ckV m gs cs = R at E ⊢
  obtain ⟨gb, hgb⟩ : ∃ gb, goodB m = gb := ⟨_, rfl⟩
  rw [hgb] at CG E HIN
  obtain ⟨up, sc, de, gap, b0, b1, b2, b3, lg, ad, be⟩ := m
  have HB1 := hide bw
  have HK1 := hide k1
  clear hna hnb hng hnc hz hA hB hG hC bw k1 hgb
  simp only [mcs, fcs] at CG HB1 HK1 HNA HIN ⊢
  go_enter Tryd.func18, Tryd.ntmps18
  go_wp2_with fail
  refine CG.out.mono ?_
  rintro e w1 ⟨rfl, h1⟩
  have hk := HK1.out.below h1
  have e9 := hk.cell 9
  have e11 := hk.cell 11
  have e12 := hk.cell 12
  simp at e9 e11 e12
  have xlt := hk.lt
  have HB2 := hide (below_t5 HB1.out h1)
  have HK2 := hide hk
  clear h1 hk HB1 HK1
  cases gb with
  | false =>
    have E0 := E.out
    simp only [↓reduceIte, Bool.false_eq_true] at E0
    subst E0
    go_wp2_with fail
    go_ret
    exact ⟨rfl, HB2.out⟩
  | true =>
    by_cases hne : ng = na
    case neg =>
      have E0 := E.out
      simp only [↓reduceIte, Bool.false_eq_true, hne] at E0
      subst E0
      have hne1 : ((ng : Int) == (na : Int)) = false := by rw [beq_eq_false_iff_ne]; omega
      have hne2 : (ng : Int) ≠ (na : Int) := by omega
      go_wp2_with fail
      go_ret
      exact ⟨rfl, HB2.out⟩
    subst hne
    have h4 : 1 ≤ ng ∧ ng ≤ 4096 := by have := (HIN.out rfl).2.2.2.1; have := HNA.out; omega
    have CP1 := hide (CP.out w1 HB2.out h4.2)
    have hne1 : ((ng : Int) == (ng : Int)) = true := by simp
    go_wp2_with fail
    refine CP1.out.mono ?_
    rintro e w2 ⟨h2, h3⟩
    have hk := HK2.out.below h2
    have f11 := hk.cell 11
    have f12 := hk.cell 12
    simp at f11 f12
    have xlt2 := hk.lt
    have HB3 := hide (below_t5 HB2.out h2)
    have HK3 := hide hk
    clear hk h2 e9 e11 e12 xlt HB2 HK2 CP CP1 CG
    rcases h3 with ⟨hcp, rfl⟩ | ⟨pss, hcp, g, rfl, hPL⟩
    · have E0 := E.out
      simp only [hcp, ↓reduceIte, Bool.false_eq_true] at E0
      subst E0
      clear hcp
      go_wp2_with fail
      go_ret
      exact ⟨rfl, HB3.out⟩
    · have CD1 := hide (CD.out (some ⟨g, 0, none⟩) ng pss w2 h4.1 h4.2 hcp hPL)
      have E0 := E.out
      simp only [hcp, ↓reduceIte, Bool.false_eq_true] at E0
      have HE0 := hide E0
      obtain ⟨db, hdb⟩ : ∃ d, deepB pss = d := ⟨_, rfl⟩
      rw [hdb] at CD1 HE0
      clear hcp hPL E0 E hdb CD
      go_wp2_with fail
      refine CD1.out.mono ?_
      rintro e w3 ⟨rfl, h3⟩
      have hk := HK3.out.below h3
      have f11 := hk.cell 11
      have f12 := hk.cell 12
      simp at f11 f12
      have xlt3 := hk.lt
      have HB4 := hide (below_t5 HB3.out h3)
      clear hk h3 HB3 HK3
      cases db with
      | true =>
        have E0 := HE0.out
        simp only [↓reduceIte, Bool.false_eq_true] at E0
        subst E0
        go_wp2_with fail
        go_ret
        exact ⟨rfl, HB4.out⟩
      | false =>
        have CC1 := hide (CC.out w3 HB4.out)
        obtain ⟨cb, hcb⟩ : ∃ d, C11.gooB cs (ng : Int) = d := ⟨_, rfl⟩
        rw [hcb] at CC1 HE0
        clear hcb CC
        go_wp2_with fail
        refine CC1.out.mono ?_
        rintro e w4 ⟨rfl, h4'⟩
        have HB5 := hide (below_t5 HB4.out h4')
        clear h4'
        cases cb with
        | true =>
          have E0 := HE0.out
          simp only [↓reduceIte, Bool.false_eq_true] at E0
          subst E0
          go_wp2_with fail
          go_ret
          exact ⟨rfl, HB5.out⟩
        | false =>
          have E0 := HE0.out
          simp only [↓reduceIte, Bool.false_eq_true] at E0
          subst E0
          go_wp2_with fail
          go_ret
          exact ⟨rfl, HB5.out⟩
abbrev zf : Array Value := #[.int .i64 0, .int .i64 0, .int .i64 0, .int .i64 0, .int .i64 0, .int .i64 0, .int .i64 0, .int .i64 0, .bool false, .slice none 0 0, .slice none 0 0, .slice none 0 0, .slice none 0 0]
theorem store13 {w : World} {F : Nat} (h : Blk w F zf 29) (v0 v1 v2 v3 v4 v5 v6 v7 v8 v9 v10 v11 v12 : Value) :
    Blk (((((((((((((w.setCell ⟨F, 0, none⟩ v0).setCell ⟨F, 1, none⟩ v1).setCell ⟨F, 2, none⟩ v2).setCell ⟨F, 3, none⟩ v3).setCell ⟨F, 4, none⟩ v4).setCell ⟨F, 5, none⟩ v5).setCell ⟨F, 6, none⟩ v6).setCell ⟨F, 7, none⟩ v7).setCell ⟨F, 8, none⟩ v8).setCell ⟨F, 9, none⟩ v9).setCell ⟨F, 10, none⟩ v10).setCell ⟨F, 11, none⟩ v11).setCell ⟨F, 12, none⟩ v12) F #[v0, v1, v2, v3, v4, v5, v6, v7, v8, v9, v10, v11, v12] 29 ∧ But F w (((((((((((((w.setCell ⟨F, 0, none⟩ v0).setCell ⟨F, 1, none⟩ v1).setCell ⟨F, 2, none⟩ v2).setCell ⟨F, 3, none⟩ v3).setCell ⟨F, 4, none⟩ v4).setCell ⟨F, 5, none⟩ v5).setCell ⟨F, 6, none⟩ v6).setCell ⟨F, 7, none⟩ v7).setCell ⟨F, 8, none⟩ v8).setCell ⟨F, 9, none⟩ v9).setCell ⟨F, 10, none⟩ v10).setCell ⟨F, 11, none⟩ v11).setCell ⟨F, 12, none⟩ v12) := by
  refine ⟨?_, ((((((((((((((But.refl F w).trans (But.setCell F _ 0 v0)).trans (But.setCell F _ 1 v1)).trans (But.setCell F _ 2 v2)).trans (But.setCell F _ 3 v3)).trans (But.setCell F _ 4 v4)).trans (But.setCell F _ 5 v5)).trans (But.setCell F _ 6 v6)).trans (But.setCell F _ 7 v7)).trans (But.setCell F _ 8 v8)).trans (But.setCell F _ 9 v9)).trans (But.setCell F _ 10 v10)).trans (But.setCell F _ 11 v11)).trans (But.setCell F _ 12 v12))⟩
  have := (Blk.set (Blk.set (Blk.set (Blk.set (Blk.set (Blk.set (Blk.set (Blk.set (Blk.set (Blk.set (Blk.set (Blk.set (Blk.set h 0 v0) 1 v1) 2 v2) 3 v3) 4 v4) 5 v5) 6 v6) 7 v7) 8 v8) 9 v9) 10 v10) 11 v11) 12 v12)
  simpa [zf] using this
theorem slst_but {w w' : World} {L : Nat} {cs : Array Value} {t : TypeId} {a : Option Addr} {l : List ByteArray} (h : G10.SLst w a l) (hb : But L w w') (hk : Blk w L cs t) (hj : ∀ (j : Nat) (x : ByteArray), cs[j]? ≠ some (Value.string x)) : G10.SLst w' a l := by
  rcases h with h | ⟨b, o, h1, h2, h3⟩
  · exact Or.inl h
  · refine Or.inr ⟨b, o, h1, Nat.lt_of_lt_of_le h2 hb.size, fun i hi => ?_⟩
    have hne : b ≠ L := by
      intro e
      subst e
      have := h3 i hi
      rw [hk.cell] at this
      exact hj _ _ this
    rw [World.cell?_of_block (w := w) (hb.block b h2 hne)]
    exact h3 i hi
theorem clst_but {w w' : World} {L : Nat} {a : Option Addr} {l : List C11.Ch} (h : C11.CLst w a l) (hb : But L w w') (hne : l = [] ∨ ∃ b, a = some ⟨b, 0, none⟩ ∧ b ≠ L) : C11.CLst w' a l := by
  rcases h with h | ⟨b, o, h1, h2, h3⟩
  · exact Or.inl h
  · rcases hne with hn | ⟨b', h4, h5⟩
    · exact Or.inl hn
    · rw [h1] at h4
      injection h4 with h4
      injection h4 with h6 h7
      subst h6
      exact Or.inr ⟨b, o, h1, Nat.lt_of_lt_of_le h2 hb.size, fun i hi => by
        have key : ∀ k, w'.cell? ⟨b, k, none⟩ = w.cell? ⟨b, k, none⟩ := fun k => World.cell?_of_block (w := w) (a := ⟨b, k, none⟩) (hb.block b h2 h5)
        rw [key, key, key]
        exact h3 i hi⟩
theorem nos {j : Nat} {x : ByteArray} : zf[j]? ≠ some (Value.string x) := by
  intro h
  match j, h with
  | 0, h => simp at h
  | 1, h => simp at h
  | 2, h => simp at h
  | 3, h => simp at h
  | 4, h => simp at h
  | 5, h => simp at h
  | 6, h => simp at h
  | 7, h => simp at h
  | 8, h => simp at h
  | 9, h => simp at h
  | 10, h => simp at h
  | 11, h => simp at h
  | 12, h => simp at h
  | j + 13, h => simp at h
def lsum : List ByteArray → Nat → Nat
  | [], n => n
  | g :: r, n => if n ≤ 30000 then lsum r (n + g.size) else n
def lrgB (t ng nc na nb : Nat) : Bool := decide (30000 < t) || (decide (200 < ng) || (decide (200 < nc) || (decide (200 < na) || decide (200 < nb))))
theorem drop_gs (gs : List ByteArray) (k : Nat) (h : k < gs.length) : gs.drop k = gs.getD k ⟨#[]⟩ :: gs.drop (k + 1) := by
  rw [List.drop_eq_getElem_cons h, List.getD_eq_getElem?_getD, List.getElem?_eq_getElem h]; rfl
set_option maxRecDepth 8000 in
set_option maxHeartbeats 4000000 in
theorem large_any (m : Mt) (aa ab ga ca : Option Addr) (na nb ng nc ka kb kg kc : Nat) (gs : List ByteArray) (w : World) (hng : gs.length = ng) (hm : ng ≤ 4611686018427387904) (hz : ∀ g ∈ gs, g.size ≤ 4611686018427387904) (hG : G10.SLst w ga gs) :
    Calls Tryd.prog 5 #[.agg (fcs m (.slice aa na ka) (.slice ab nb kb) (.slice ga ng kg) (.slice ca nc kc))] w fun e w' => e = .returned (.bool (lrgB (lsum gs 0) ng nc na nb)) ∧ Below w.heap.size w w' := by
  have hm' : (ng : Int) ≤ 4611686018427387904 := by omega
  obtain ⟨up, sc, de, gap, b0, b1, b2, b3, lg, ad, be⟩ := m
  have HB0 := hide ((Below.refl w.heap.size w).alloc (Nat.le_refl _) (.cells (fcs ⟨up, sc, de, gap, b0, b1, b2, b3, lg, ad, be⟩ (.slice aa na ka) (.slice ab nb kb) (.slice ga ng kg) (.slice ca nc kc)) 29))
  have HK0 := hide (Blk.new w (fcs ⟨up, sc, de, gap, b0, b1, b2, b3, lg, ad, be⟩ (.slice aa na ka) (.slice ab nb kb) (.slice ga ng kg) (.slice ca nc kc)) 29)
  obtain ⟨T, hT⟩ : ∃ T, lsum gs 0 = T := ⟨_, rfl⟩
  rw [hT]
  have HT := hide hT
  have HL := hide hG
  have HN := hide hng
  have HZ := hide hz
  clear hG hng hz hT
  simp only [fcs] at HB0 HK0 ⊢
  go_enter Tryd.func5, Tryd.ntmps5
  go_wp2_with fail
  go_loopw [3, 4] (fun vn vi wr => ∃ (k t : Nat), vi = .int .i64 (k : Int) ∧ vn = .int .i64 (t : Int) ∧ Hid (k ≤ ng ∧ t ≤ 4611686018427417904 ∧ Blk wr w.heap.size #[.int .i64 up, .int .i64 sc, .int .i64 de, .int .i64 gap, .int .i64 b0, .int .i64 b1, .int .i64 b2, .int .i64 b3, .bool lg, .slice aa na ka, .slice ab nb kb, .slice ga ng kg, .slice ca nc kc] 29 ∧ Below w.heap.size w wr ∧ lsum (gs.drop k) t = T)) (fun _ vi _ => ng - (intOf vi).toNat)
  case atStart => exact ⟨0, 0, rfl, rfl, hide ⟨by omega, by omega, HK0.out, HB0.out, by rw [List.drop_zero]; exact HT.out⟩⟩
  case round =>
    clear HB0 HK0 HT
    obtain ⟨k, t, rfl, rfl, HV⟩ := hrel
    obtain ⟨hk, ht, hkb, hbw, hrr⟩ := HV.out
    have hk0 : (0 : Int) ≤ (k : Int) := by omega
    have ht0 : (0 : Int) ≤ (t : Int) := by omega
    have e9 := hkb.cell 9
    have e10 := hkb.cell 10
    have e11 := hkb.cell 11
    have e12 := hkb.cell 12
    simp at e9 e10 e11 e12
    have xlt := hkb.lt
    clear HV
    have HKB := hide hkb
    have HBW := hide hbw
    clear hkb hbw
    by_cases hgo : k < ng ∧ t ≤ 30000
    case neg =>
      have hTt : T = t := by
        rw [← hrr]
        by_cases h : k < ng
        · rw [drop_gs gs k (by rw [HN.out]; exact h), lsum, if_neg (by omega)]
        · rw [List.drop_eq_nil_of_le (by rw [HN.out]; omega), lsum]
      clear hrr
      have hrr := True.intro
      by_cases h3 : 30000 < t
      · have h3' : ¬ (t : Int) ≤ 30000 := by omega
        have h3'' : (30000 : Int) < (t : Int) := by omega
        by_cases hkn : k < ng
        · have hkn' : (k : Int) < (ng : Int) := by omega
          have HB : Hid (lrgB T ng nc na nb = true) := hide (by rw [hTt]; unfold lrgB; simp [h3])
          clear hTt hgo hrr hk ht
          go_wp2_with fail
          go_ret
          exact ⟨by rw [HB.out]; rfl, HBW.out⟩
        · have hkn' : ¬ (k : Int) < (ng : Int) := by omega
          have HB : Hid (lrgB T ng nc na nb = true) := hide (by rw [hTt]; unfold lrgB; simp [h3])
          clear hTt hgo hrr hk ht
          go_wp2_with fail
          go_ret
          exact ⟨by rw [HB.out]; rfl, HBW.out⟩
      have hkn : ¬ k < ng := fun h => hgo ⟨h, by omega⟩
      have hkn' : ¬ (k : Int) < (ng : Int) := by omega
      have h3' : ¬ (30000 : Int) < (t : Int) := by omega
      by_cases hA : 200 < ng
      · have hA' : (200 : Int) < (ng : Int) := by omega
        have HB : Hid (lrgB T ng nc na nb = true) := hide (by rw [hTt]; unfold lrgB; simp [hA])
        clear hTt hgo hrr hk ht
        go_wp2_with fail
        go_ret
        exact ⟨by rw [HB.out]; rfl, HBW.out⟩
      have hA' : ¬ (200 : Int) < (ng : Int) := by omega
      by_cases hB : 200 < nc
      · have hB' : (200 : Int) < (nc : Int) := by omega
        have HB : Hid (lrgB T ng nc na nb = true) := hide (by rw [hTt]; unfold lrgB; simp [hB])
        clear hTt hgo hrr hk ht
        go_wp2_with fail
        go_ret
        exact ⟨by rw [HB.out]; rfl, HBW.out⟩
      have hB' : ¬ (200 : Int) < (nc : Int) := by omega
      by_cases hC : 200 < na
      · have hC' : (200 : Int) < (na : Int) := by omega
        have HB : Hid (lrgB T ng nc na nb = true) := hide (by rw [hTt]; unfold lrgB; simp [hC])
        clear hTt hgo hrr hk ht
        go_wp2_with fail
        go_ret
        exact ⟨by rw [HB.out]; rfl, HBW.out⟩
      have hC' : ¬ (200 : Int) < (na : Int) := by omega
      by_cases hD : 200 < nb
      · have hD' : (200 : Int) < (nb : Int) := by omega
        have HB : Hid (lrgB T ng nc na nb = true) := hide (by rw [hTt]; unfold lrgB; simp [hD])
        clear hTt hgo hrr hk ht
        go_wp2_with fail
        go_ret
        exact ⟨by rw [HB.out]; rfl, HBW.out⟩
      have hD' : ¬ (200 : Int) < (nb : Int) := by omega
      have HB : Hid (lrgB T ng nc na nb = false) := hide (by rw [hTt]; unfold lrgB; simp [decide_eq_false h3, decide_eq_false hA, decide_eq_false hB, decide_eq_false hC, decide_eq_false hD] <;> omega)
      clear hTt hgo hrr hk ht
      go_wp2_with fail
      go_ret
      exact ⟨by rw [HB.out]; rfl, HBW.out⟩
    have hlt := hgo.1
    have hle := hgo.2
    have hlt' : (k : Int) < (ng : Int) := by omega
    have hle' : (t : Int) ≤ 30000 := by omega
    obtain ⟨b, o, rfl, hbl, hcell⟩ : ∃ b o, ga = some ⟨b, o, none⟩ ∧ b < w.heap.size ∧ ∀ i, i < gs.length → w.cell? ⟨b, o + i, none⟩ = some (.string (gs.getD i ⟨#[]⟩)) := by
      rcases HL.out with hz | h
      · have := HN.out
        rw [hz] at this; simp at this; omega
      · exact h
    rw [drop_gs gs k (by rw [HN.out]; exact hlt), lsum, if_pos hle] at hrr
    have c0 := hcell k (by rw [HN.out]; exact hlt)
    rw [← HBW.out.cell (p := ⟨b, o + k, none⟩) hbl] at c0
    have hsz : (gs.getD k ⟨#[]⟩).size ≤ 4611686018427387904 := by
      rw [List.getD_eq_getElem?_getD, List.getElem?_eq_getElem (by rw [HN.out]; exact hlt)]
      exact HZ.out _ (List.getElem_mem _)
    generalize gs.getD k ⟨#[]⟩ = sg at c0 hsz hrr
    have hsz' : (sg.size : Int) ≤ 4611686018427387904 := by omega
    have hblw : b < wr.heap.size := Nat.lt_of_lt_of_le hbl HBW.out.size
    have HRR := hide hrr
    clear hrr hcell hgo hlt hle hsz ht hk
    go_wp2_with fail
    go_roundw
    case rel => exact ⟨k + 1, t + sg.size, by go_num, by go_num, hide ⟨by omega, by omega, HKB.out, HBW.out, HRR.out⟩⟩
    case measure => simp [intOf]; omega
theorem ba {w u : World} (h : Below w.heap.size w u) (o : Obj) : Below w.heap.size w (u.alloc o) := h.alloc h.size o
theorem bdr {w u : World} (h : Below w.heap.size w u) : Below w.heap.size w u.drew := ⟨h.os, h.tape, h.output, h.size, h.block⟩
theorem info_strs : (Tryd.prog.info? 9).map (fun i => (i.zero, i.size, i.bytes)) = some (some (.string ⟨#[]⟩), 1, 16) := by kernel_rfl
theorem app_S2 (u : World) (H : Nat) (a : Option Addr) (n c : Nat) (zs : List ByteArray) (hz : zs.length = n) (h : n ≤ 100000) (hL : G10.SLst u a zs) :
    ∃ g c' w', (Builtin.append_ #[26, 26] 26 #[.slice (some ⟨H, 0, none⟩) 0 0, .slice a n c]).run Tryd.prog u = .ok (.slice (some ⟨g, 0, none⟩) n c') w' ∧ (G10.SLst w' (some ⟨g, 0, none⟩) zs ∧ Below u.heap.size u w') := by
  obtain ⟨i0, hi, hz0, hz1, hz2⟩ := info_parts5 info_strs
  rcases Nat.eq_zero_or_pos n with h0 | h0
  · subst h0
    obtain rfl : zs = [] := List.eq_nil_of_length_eq_zero hz
    have hs : Src Tryd.prog i0.size 26 (.slice a 0 c) 0 [] u := by
      cases a with
      | none => exact Src.ofNil _ Tryd.underlying26 c
      | some x => exact Src.ofSlice _ Tryd.underlying26 x 0 c [] (by simp) (by simp) (by simp)
    have hr := run_append_room_src (P := Tryd.prog) u 26 26 26 9 i0 Tryd.underlying26 hi H 0 0 0 _ 0 [] hs (by omega) (by simp) (by simp)
    exact ⟨H, 0, u, by simpa [World.setCells] using hr, Or.inl rfl, Below.refl _ _⟩
  · rcases hL with hz' | ⟨b, off, rfl, hb, hcell⟩
    · rw [hz'] at hz; simp at hz; omega
    have hs : Src Tryd.prog i0.size 26 (.slice (some ⟨b, off, none⟩) n c) n (zs.map Value.string) u := by
      refine Src.ofSlice u Tryd.underlying26 ⟨b, off, none⟩ n c _ (by rw [hz1]; simp [hz]) ?_ (fun u hu => by obtain ⟨x, _, rfl⟩ := List.mem_map.1 hu; rfl)
      intro j v hu
      have hj : j < zs.length := by
        have := List.getElem?_eq_some_iff.1 hu
        simpa using this.1
      rw [Go.WideShapes.add_plain, hcell j hj]
      rw [List.getElem?_map, List.getElem?_eq_getElem hj] at hu
      simp at hu
      rw [← hu, List.getD_eq_getElem?_getD, List.getElem?_eq_getElem hj]
      rfl
    have hr := run_append_grow_src (P := Tryd.prog) u 26 26 26 9 i0 (.string ⟨#[]⟩) Tryd.underlying26 hi hz0 (some ⟨H, 0, none⟩) 0 0 [] (run_firstCells_some _ i0.size 0 _ 0 0 [] (by simp) (by simp)) _ n _ hs (by omega) (by omega)
      (by rw [hz2]; have := growslice_fits (need := 0 + n) (old := 0) (bytes := 16) (by omega) (by omega); exact this)
    simp only [Nat.zero_add, List.nil_append] at hr
    have hsz : (u.drew).heap.size = u.heap.size := rfl
    refine ⟨_, _, _, hr, Or.inr ⟨u.heap.size, 0, rfl, by simp, fun i hi => ?_⟩, (bdr (Below.refl _ _)).alloc (Nat.le_refl _) _⟩
    rw [Nat.zero_add, World.cell?_alloc_at _ _ _ _ hsz.symm, Array.getElem?_append_left (by simpa using hi)]
    simp [List.getElem?_eq_getElem hi, List.getD_eq_getElem?_getD]
theorem app_copyI (w : World) (a : Option Addr) (n c H : Nat) (zs : List Int) (hz : zs.length = n) (h : n ≤ 100000) (hL : Lst w a zs) (hH : w.heap.size = H) :
    ∃ g c' w', (Builtin.append_ #[23, 23] 23 #[.slice (some ⟨H, 0, none⟩) 0 0, .slice a n c]).run Tryd.prog (w.alloc (.cells #[] 3)) = .ok (.slice (some ⟨g, 0, none⟩) n c') w' ∧ Lst w' (some ⟨g, 0, none⟩) zs ∧ w.heap.size ≤ g ∧ Below w.heap.size w w' ∧ n ≤ c' ∧ c' ≤ 9223372036854775807 := by
  subst hH
  obtain ⟨i0, hi, hz0, hz1, hz2⟩ := info_parts5 info_int
  rcases Nat.eq_zero_or_pos n with h0 | h0
  · subst h0
    obtain rfl : zs = [] := List.eq_nil_of_length_eq_zero hz
    have hs : Src Tryd.prog i0.size 23 (.slice a 0 c) 0 [] (w.alloc (.cells #[] 3)) := by
      cases a with
      | none => exact Src.ofNil _ Tryd.underlying23 c
      | some x => exact Src.ofSlice _ Tryd.underlying23 x 0 c [] (by simp) (by simp) (by simp)
    have hr := run_append_room_src (P := Tryd.prog) (w.alloc (.cells #[] 3)) 23 23 23 3 i0 Tryd.underlying23 hi w.heap.size 0 0 0 _ 0 [] hs (by omega) (by simp) (by simp)
    refine ⟨w.heap.size, 0, w.alloc (.cells #[] 3), by simpa [World.setCells] using hr, Or.inl rfl, Nat.le_refl _, (Below.refl _ _).alloc (Nat.le_refl _) _, by omega, by omega⟩
  · rcases hL with hz' | ⟨b, off, rfl, hb, hcell⟩
    · rw [hz'] at hz; simp at hz; omega
    have hs : Src Tryd.prog i0.size 23 (.slice (some ⟨b, off, none⟩) n c) n (zs.map (Value.int .i64)) (w.alloc (.cells #[] 3)) := by
      refine Src.ofSlice (w.alloc (.cells #[] 3)) Tryd.underlying23 ⟨b, off, none⟩ n c _ (by rw [hz1]; simp [hz]) ?_ (ints_oneCell .i64 zs)
      intro j u hu
      have hj : j < zs.length := by
        have := List.getElem?_eq_some_iff.1 hu
        simpa using this.1
      rw [Go.WideShapes.add_plain, World.cell?_alloc_lt _ _ _ hb, hcell j hj]
      rw [List.getElem?_map, List.getElem?_eq_getElem hj] at hu
      simp at hu
      rw [← hu, List.getD_eq_getElem?_getD, List.getElem?_eq_getElem hj]
      rfl
    have hr := run_append_grow_src (P := Tryd.prog) (w.alloc (.cells #[] 3)) 23 23 23 3 i0 (.int .i64 0) Tryd.underlying23 hi hz0 (some ⟨w.heap.size, 0, none⟩) 0 0 [] (run_firstCells_some _ i0.size 0 _ 0 0 [] (by simp) (by simp)) _ n _ hs (by omega) (by omega)
      (by rw [hz2]; have := growslice_fits (need := 0 + n) (old := 0) (bytes := 8) (by omega) (by omega); exact this)
    simp only [Nat.zero_add, List.nil_append] at hr
    have hs2 : (w.alloc (.cells #[] 3)).heap.size = w.heap.size + 1 := by simp
    rw [hs2] at hr
    have b1 : Below w.heap.size w ((w.alloc (.cells #[] 3)).drew) := ((Below.refl _ _).alloc (Nat.le_refl _) _).drew
    have hsz : ((w.alloc (.cells #[] 3)).drew).heap.size = w.heap.size + 1 := by simp
    refine ⟨_, _, _, hr, Or.inr ⟨w.heap.size + 1, 0, rfl, by simp, fun i hi => ?_⟩, by omega, b1.alloc (by rw [hsz]; omega) _, grownCap_ge _ _ _ _, by have := grownCap_le_maxLen (w.alloc (.cells #[] 3)) n 0 3 (by simp only [maxLen]; omega); simpa only [maxLen] using this⟩
    rw [Nat.zero_add, World.cell?_alloc_at _ _ _ _ hsz.symm, newCell9 zs i hi]
end Go.Proofs.YthnpnkiomknkeaaDoor.F12
namespace Go.Proofs.YthnpnkiomknkeaaDoor.F12
open Go.RowKit Go.Deep
set_option linter.unusedVariables false
set_option maxHeartbeats 2000000 in
theorem cp_new (m : Mt) (aa ab : Option Addr) (na ca nb cb : Nat) (w : World) (hna : m.ad.length = na) (hnb : m.be.length = nb) (hma : na ≤ 100000) (hmb : nb ≤ 100000) (hA : Lst w aa m.ad) (hB : Lst w ab m.be) :
    Calls Tryd.prog 22 #[.agg (mcs m (.slice aa na ca) (.slice ab nb cb))] w fun e w' => ∃ p q cp cq, e = .returned (.agg (mcs m (.slice (some ⟨p, 0, none⟩) na cp) (.slice (some ⟨q, 0, none⟩) nb cq))) ∧ Lst w' (some ⟨p, 0, none⟩) m.ad ∧ Lst w' (some ⟨q, 0, none⟩) m.be ∧ Below w.heap.size w w' ∧ w.heap.size ≤ p ∧ w.heap.size ≤ q := by
  obtain ⟨up, sc, de, ga, b0, b1, b2, b3, lg, ad, be⟩ := m
  have HA := hide (And.intro hna (And.intro hnb (And.intro hma (And.intro hmb (And.intro hA hB)))))
  clear hna hnb hma hmb hA hB
  simp only [mcs] at HA ⊢
  have b1' := (Below.refl w.heap.size w).alloc (Nat.le_refl _) (.cells #[.int .i64 up, .int .i64 sc, .int .i64 de, .int .i64 ga, .int .i64 b0, .int .i64 b1, .int .i64 b2, .int .i64 b3, .bool lg, .slice aa na ca, .slice ab nb cb] 25)
  have k1 := Blk.new w #[.int .i64 up, .int .i64 sc, .int .i64 de, .int .i64 ga, .int .i64 b0, .int .i64 b1, .int .i64 b2, .int .i64 b3, .bool lg, .slice aa na ca, .slice ab nb cb] 25
  have z1 : (w.alloc (.cells #[.int .i64 up, .int .i64 sc, .int .i64 de, .int .i64 ga, .int .i64 b0, .int .i64 b1, .int .i64 b2, .int .i64 b3, .bool lg, .slice aa na ca, .slice ab nb cb] 25)).heap.size = w.heap.size + 1 := by simp
  have bb2 := (Below.refl (w.alloc (.cells #[.int .i64 up, .int .i64 sc, .int .i64 de, .int .i64 ga, .int .i64 b0, .int .i64 b1, .int .i64 b2, .int .i64 b3, .bool lg, .slice aa na ca, .slice ab nb cb] 25)).heap.size (w.alloc (.cells #[.int .i64 up, .int .i64 sc, .int .i64 de, .int .i64 ga, .int .i64 b0, .int .i64 b1, .int .i64 b2, .int .i64 b3, .bool lg, .slice aa na ca, .slice ab nb cb] 25))).alloc (Nat.le_refl _) (.cells zeroC 25)
  have k2 := Blk.new (w.alloc (.cells #[.int .i64 up, .int .i64 sc, .int .i64 de, .int .i64 ga, .int .i64 b0, .int .i64 b1, .int .i64 b2, .int .i64 b3, .bool lg, .slice aa na ca, .slice ab nb cb] 25)) zeroC 25
  have z2 : ((w.alloc (.cells #[.int .i64 up, .int .i64 sc, .int .i64 de, .int .i64 ga, .int .i64 b0, .int .i64 b1, .int .i64 b2, .int .i64 b3, .bool lg, .slice aa na ca, .slice ab nb cb] 25)).alloc (.cells zeroC 25)).heap.size = w.heap.size + 1 + 1 := by simp
  rw [z1] at k2
  have k1b := k1.below bb2
  have bv := below_t5 b1' bb2
  obtain ⟨p, cp, W1, hr1, hl1, hp1, hb1⟩ := app_copy ((w.alloc (.cells #[.int .i64 up, .int .i64 sc, .int .i64 de, .int .i64 ga, .int .i64 b0, .int .i64 b1, .int .i64 b2, .int .i64 b3, .bool lg, .slice aa na ca, .slice ab nb cb] 25)).alloc (.cells zeroC 25)) aa na ca (w.heap.size + 1 + 1) ad HA.out.1 HA.out.2.2.1 (HA.out.2.2.2.2.1.below bv) z2
  have k1c := k1b.below hb1
  have k2c := k2.below hb1
  have bw1 := below_t5 bv hb1
  have hset : But w.heap.size W1 (W1.setCell ⟨w.heap.size, 9, none⟩ (.slice (some ⟨p, 0, none⟩) na cp)) := But.setCell _ _ _ _
  have k1d : Blk (W1.setCell ⟨w.heap.size, 9, none⟩ (.slice (some ⟨p, 0, none⟩) na cp)) w.heap.size #[.int .i64 up, .int .i64 sc, .int .i64 de, .int .i64 ga, .int .i64 b0, .int .i64 b1, .int .i64 b2, .int .i64 b3, .bool lg, .slice (some ⟨p, 0, none⟩) na cp, .slice ab nb cb] 25 := by
    have := Blk.set k1c 9 (.slice (some ⟨p, 0, none⟩) na cp)
    simpa using this
  have k2d := hset.blk k2c (by omega)
  have bw2 := hset.below bw1 (Nat.le_refl _)
  have hl1d : Lst (W1.setCell ⟨w.heap.size, 9, none⟩ (.slice (some ⟨p, 0, none⟩) na cp)) (some ⟨p, 0, none⟩) ad := hl1.other (by rw [z2] at hp1; omega) _
  obtain ⟨q, cq, W2, hr2, hl2, hq2, hb2⟩ := app_copy (W1.setCell ⟨w.heap.size, 9, none⟩ (.slice (some ⟨p, 0, none⟩) na cp)) ab nb cb W1.heap.size be HA.out.2.1 HA.out.2.2.2.1 (HA.out.2.2.2.2.2.below bw2) (by simp)
  have k1e := k1d.below hb2
  have k2e := k2d.below hb2
  have bw3 := below_t5 bw2 hb2
  have zw1 : W1.heap.size = (W1.setCell ⟨w.heap.size, 9, none⟩ (.slice (some ⟨p, 0, none⟩) na cp)).heap.size := by simp
  have hxw := k1c.lt
  have hset2 : But w.heap.size W2 (W2.setCell ⟨w.heap.size, 10, none⟩ (.slice (some ⟨q, 0, none⟩) nb cq)) := But.setCell _ _ _ _
  have k1f : Blk (W2.setCell ⟨w.heap.size, 10, none⟩ (.slice (some ⟨q, 0, none⟩) nb cq)) w.heap.size #[.int .i64 up, .int .i64 sc, .int .i64 de, .int .i64 ga, .int .i64 b0, .int .i64 b1, .int .i64 b2, .int .i64 b3, .bool lg, .slice (some ⟨p, 0, none⟩) na cp, .slice (some ⟨q, 0, none⟩) nb cq] 25 := by
    have := Blk.set k1e 10 (.slice (some ⟨q, 0, none⟩) nb cq)
    simpa using this
  have k2f := hset2.blk k2e (by omega)
  have bw4 := hset2.below bw3 (Nat.le_refl _)
  have hl1f : Lst (W2.setCell ⟨w.heap.size, 10, none⟩ (.slice (some ⟨q, 0, none⟩) nb cq)) (some ⟨p, 0, none⟩) ad := (hl1d.below hb2).other (by rw [z2] at hp1; omega) _
  have hl2f : Lst (W2.setCell ⟨w.heap.size, 10, none⟩ (.slice (some ⟨q, 0, none⟩) nb cq)) (some ⟨q, 0, none⟩) be := hl2.other (by rw [← zw1] at hq2; omega) _
  have c9 := k1c.cell 9
  have f9 := k1c.frozen 9
  have d10 := k1d.cell 10
  have xlt1 := k1c.lt
  have xltd := k1d.lt
  have e10 := k1e.cell 10
  have f10 := k1e.frozen 10
  have xlt2 := k1e.lt
  simp at c9 d10 e10 xltd
  have HR1 := hide hr1
  have HR2 := hide hr2
  have HL := hide (And.intro hl1f hl2f)
  have HK := hide (And.intro k1f (And.intro k2f bw4))
  have HPQ : Hid (p ≠ w.heap.size + 1 ∧ q ≠ w.heap.size + 1 ∧ w.heap.size ≤ p ∧ w.heap.size ≤ q) := hide (by have := k2c.lt; rw [z2] at hp1; rw [← zw1] at hq2; omega)
  clear b1' k1 z1 bb2 k2 z2 k1b bv hr1 hl1 hb1 k1c k2c bw1 hset k1d k2d bw2 hl1d hr2 hl2 k1e k2e bw3 hset2 k1f k2f bw4 hl1f hl2f hp1 hq2 hb2 zw1 hxw
  go_enter Tryd.func22, Tryd.ntmps22
  go_upto_region 2 with (at_builtin; refine Lib.wpList_append_run _ rfl _ _ _ _ rfl _ _ rfl rfl _ _ HR1.out ?_)
  go_upto_region 3 with (at_builtin; refine Lib.wpList_append_run _ rfl _ _ _ _ rfl _ _ rfl rfl _ _ HR2.out ?_)
  clear c9 f9 d10 xlt1 xltd e10 f10 xlt2 HR1 HR2
  generalize W2.setCell ⟨w.heap.size, 10, none⟩ (.slice (some ⟨q, 0, none⟩) nb cq) = W3 at HL HK ⊢
  have k1 := HK.out.1
  have k2 := HK.out.2.1
  obtain ⟨r, hr⟩ : ∃ r, w.heap.size + 1 = r := ⟨_, rfl⟩
  have hrw : w.heap.size ≤ r := by omega
  have hxr : w.heap.size ≠ r := by omega
  have HRW := hide (And.intro hrw hr)
  rw [hr] at k2 ⊢
  have HK2 := hide k2
  have w0 := k1.cell 0
  have w1 := k1.cell 1
  have w2 := k1.cell 2
  have w3 := k1.cell 3
  have w4 := k1.cell 4
  have w5 := k1.cell 5
  have w6 := k1.cell 6
  have w7 := k1.cell 7
  have w8 := k1.cell 8
  have w9 := k1.cell 9
  have w10 := k1.cell 10
  have z0 := k2.cell 0
  have y0 := k2.frozen 0
  have z1 := k2.cell 1
  have y1 := k2.frozen 1
  have z2 := k2.cell 2
  have y2 := k2.frozen 2
  have z3 := k2.cell 3
  have y3 := k2.frozen 3
  have z4 := k2.cell 4
  have y4 := k2.frozen 4
  have z5 := k2.cell 5
  have y5 := k2.frozen 5
  have z6 := k2.cell 6
  have y6 := k2.frozen 6
  have z7 := k2.cell 7
  have y7 := k2.frozen 7
  have z8 := k2.cell 8
  have y8 := k2.frozen 8
  have z9 := k2.cell 9
  have y9 := k2.frozen 9
  have z10 := k2.cell 10
  have y10 := k2.frozen 10
  simp at w0 w1 w2 w3 w4 w5 w6 w7 w8 w9 w10 z0 z1 z2 z3 z4 z5 z6 z7 z8 z9 z10
  have xlt := k1.lt
  have rlt := k2.lt
  clear k1 k2 hr hrw
  go_wp2_with fail
  have hst := store11 HK2.out (.int .i64 up) (.int .i64 sc) (.int .i64 de) (.int .i64 ga) (.int .i64 b0) (.int .i64 b1) (.int .i64 b2) (.int .i64 b3) (.bool lg) (.slice (some ⟨p, 0, none⟩) na cp) (.slice (some ⟨q, 0, none⟩) nb cq)
  have hbe := hst.2.below HK.out.2.2 HRW.out.1
  have hlp := HL.out.1.but hst.2 (by have := HPQ.out; have := HRW.out.2; omega)
  have hlq := HL.out.2.but hst.2 (by have := HPQ.out; have := HRW.out.2; omega)
  clear w0 z0 y0 w1 z1 y1 w2 z2 y2 w3 z3 y3 w4 z4 y4 w5 z5 y5 w6 z6 y6 w7 z7 y7 w8 z8 y8 w9 z9 y9 w10 z10 y10 xlt rlt
  generalize (((((((((((W3.setCell ⟨r, 0, none⟩ (.int .i64 up)).setCell ⟨r, 1, none⟩ (.int .i64 sc)).setCell ⟨r, 2, none⟩ (.int .i64 de)).setCell ⟨r, 3, none⟩ (.int .i64 ga)).setCell ⟨r, 4, none⟩ (.int .i64 b0)).setCell ⟨r, 5, none⟩ (.int .i64 b1)).setCell ⟨r, 6, none⟩ (.int .i64 b2)).setCell ⟨r, 7, none⟩ (.int .i64 b3)).setCell ⟨r, 8, none⟩ (.bool lg)).setCell ⟨r, 9, none⟩ (.slice (some ⟨p, 0, none⟩) na cp)).setCell ⟨r, 10, none⟩ (.slice (some ⟨q, 0, none⟩) nb cq)) = Z at hst hbe hlp hlq ⊢
  have q0 := hst.1.cell 0
  have q1 := hst.1.cell 1
  have q2 := hst.1.cell 2
  have q3 := hst.1.cell 3
  have q4 := hst.1.cell 4
  have q5 := hst.1.cell 5
  have q6 := hst.1.cell 6
  have q7 := hst.1.cell 7
  have q8 := hst.1.cell 8
  have q9 := hst.1.cell 9
  have q10 := hst.1.cell 10
  simp at q0 q1 q2 q3 q4 q5 q6 q7 q8 q9 q10
  exact bodyPost_ret (v := .agg #[.int .i64 up, .int .i64 sc, .int .i64 de, .int .i64 ga, .int .i64 b0, .int .i64 b1, .int .i64 b2, .int .i64 b3, .bool lg, .slice (some ⟨p, 0, none⟩) na cp, .slice (some ⟨q, 0, none⟩) nb cq]) (by simp [results, Tryd.results22, go_sem, q0, q1, q2, q3, q4, q5, q6, q7, q8, q9, q10]) rfl ⟨p, q, cp, cq, rfl, hlp, hlq, hbe, HPQ.out.2.2.1, HPQ.out.2.2.2⟩
end Go.Proofs.YthnpnkiomknkeaaDoor.F12
namespace Go.Proofs.YthnpnkiomknkeaaDoor.F12
open Go.RowKit Go.Deep
set_option linter.unusedVariables false
set_option linter.unusedSimpArgs false
theorem app_C3 (u : World) (H : Nat) (a : Option Addr) (n c : Nat) (cs : List C11.Ch) (hz : cs.length = n) (h : n ≤ 100000) (hL : C11.CLst u a cs) :
    ∃ g c' w', (Builtin.append_ #[27, 27] 27 #[.slice (some ⟨H, 0, none⟩) 0 0, .slice a n c]).run Tryd.prog u = .ok (.slice (some ⟨g, 0, none⟩) n c') w' ∧ (C11.CLst w' (some ⟨g, 0, none⟩) cs ∧ Below u.heap.size u w' ∧ (cs = [] ∨ u.heap.size ≤ g)) := by
  obtain ⟨i0, hi, hz0, hz1, hz2⟩ := info_parts5 C11.info_ch
  rcases Nat.eq_zero_or_pos n with h0 | h0
  · subst h0
    obtain rfl : cs = [] := List.eq_nil_of_length_eq_zero hz
    have hs : Src Tryd.prog i0.size 27 (.slice a 0 c) 0 [] u := by
      cases a with
      | none => exact Src.ofNil _ Tryd.underlying27 c
      | some x => exact Src.ofSlice _ Tryd.underlying27 x 0 c [] (by simp) (by simp) (by simp)
    have hr := run_append_room_src (P := Tryd.prog) u 27 27 27 70 i0 Tryd.underlying27 hi H 0 0 0 _ 0 [] hs (by omega) (by simp) (by simp)
    exact ⟨H, 0, u, by simpa [World.setCells] using hr, Or.inl rfl, Below.refl _ _, Or.inl rfl⟩
  · rcases hL with hz' | ⟨b, off, rfl, hb, hcell⟩
    · rw [hz'] at hz; simp at hz; omega
    have hflat : ∀ j, j < (C11.fl3 cs).length → u.cell? ⟨b, off + j, none⟩ = some (.int .i64 ((C11.fl3 cs).getD j 0)) := fun j hj => by
      rw [C11.fl3_len] at hj
      obtain ⟨a0, a1, a2⟩ := hcell (j / 3) (by omega)
      obtain ⟨e0, e1, e2⟩ := C11.fl3_at cs (j / 3) (by omega)
      have hm : j % 3 < 3 := Nat.mod_lt _ (by omega)
      have he : j = j / 3 * 3 + j % 3 := by omega
      generalize j % 3 = k at *
      generalize j / 3 = m at *
      subst he
      match k, hm with
      | 0, _ => rw [Nat.add_zero, e0]; exact a0
      | 1, _ => rw [e1, ← Nat.add_assoc]; exact a1
      | 2, _ => rw [e2, ← Nat.add_assoc]; exact a2
    have hs : Src Tryd.prog i0.size 27 (.slice (some ⟨b, off, none⟩) n c) n ((C11.fl3 cs).map (Value.int .i64)) u := by
      refine Src.ofSlice u Tryd.underlying27 ⟨b, off, none⟩ n c _ (by rw [hz1]; simp [C11.fl3_len, hz]) ?_ (fun v hv => by obtain ⟨x, _, rfl⟩ := List.mem_map.1 hv; rfl)
      intro j v hu
      have hj : j < (C11.fl3 cs).length := by
        have := List.getElem?_eq_some_iff.1 hu
        simpa using this.1
      rw [Go.WideShapes.add_plain, hflat j hj]
      rw [List.getElem?_map, List.getElem?_eq_getElem hj] at hu
      simp at hu
      rw [← hu, List.getD_eq_getElem?_getD, List.getElem?_eq_getElem hj]
      rfl
    have hr := run_append_grow_src (P := Tryd.prog) u 27 27 27 70 i0 (.agg #[.int .i64 0, .int .i64 0, .int .i64 0]) Tryd.underlying27 hi hz0 (some ⟨H, 0, none⟩) 0 0 [] (run_firstCells_some _ i0.size 0 _ 0 0 [] (by simp) (by simp)) _ n _ hs (by omega) (by omega)
      (by rw [hz2]; have := growslice_fits (need := 0 + n) (old := 0) (bytes := 24) (by omega) (by omega); exact this)
    simp only [Nat.zero_add, List.nil_append] at hr
    have hsz : (u.drew).heap.size = u.heap.size := rfl
    refine ⟨_, _, _, hr, ?_, (bdr (Below.refl _ _)).alloc (Nat.le_refl _) _, Or.inr (Nat.le_refl _)⟩
    refine Or.inr ⟨u.heap.size, 0, rfl, by simp, fun i hi => ?_⟩
    obtain ⟨e0, e1, e2⟩ := C11.fl3_at cs i hi
    have hl := C11.fl3_len cs
    have key : ∀ (rest : Array Value) (j : Nat), j < (C11.fl3 cs).length → (((C11.fl3 cs).map (Value.int .i64)).toArray ++ rest)[j]? = some (.int .i64 ((C11.fl3 cs).getD j 0)) := fun rest j hj => by
      rw [Array.getElem?_append_left (by simpa using hj)]
      simp [List.getElem?_eq_getElem hj, List.getD_eq_getElem?_getD]
    rw [Nat.zero_add, World.cell?_alloc_at _ _ _ _ hsz.symm, World.cell?_alloc_at _ _ _ _ hsz.symm, World.cell?_alloc_at _ _ _ _ hsz.symm]
    exact ⟨by rw [key _ _ (by omega), e0], by rw [key _ _ (by omega), e1], by rw [key _ _ (by omega), e2]⟩
theorem step_append_ex {P : Program} (w : World) {ops : Array Oper} {o : Oper} {a : Act} {K : Act → World → Prop} {Q : Exit → Act → World → Prop} {E : Prop} (hgd : o.guard = none) (s x : Operand) (t tn : TypeId)
    (ho : o.op = .call { callee := .builtin .append, args := #[s, x], argTypes := #[t, tn] }) (vs vx : Value) (hs : a.eval s = vs) (hx : a.eval x = vx) {n : Nat} {R : Nat → World → Prop}
    (hr : ∃ g c' w', (Builtin.append_ #[t, tn] o.type #[vs, vx]).run P w = .ok (.slice (some ⟨g, 0, none⟩) n c') w' ∧ R g w') (h : ∀ g c' w', R g w' → K (a.put o.dst (.slice (some ⟨g, 0, none⟩) n c')) w') :
    if Region.wanted o (yielded ops a.tmps) = true then Oper.wp P o a w K Q else E := by
  obtain ⟨g, c', w', h1, h2⟩ := hr
  rw [if_pos (by simp [Region.wanted, hgd])]
  exact Lib.wp_append_run w s x t tn ho vs vx hs hx _ w' h1 (h g c' w' h2)
def CoR (m : Mt) (gs : List ByteArray) (cs : List C11.Ch) (na nb ng nc : Nat) (w : World) (e : Ending) (w' : World) : Prop := ∃ p q g c kp kq kg' kc', e = .returned (.agg (fcs m (.slice (some ⟨p, 0, none⟩) na kp) (.slice (some ⟨q, 0, none⟩) nb kq) (.slice (some ⟨g, 0, none⟩) ng kg') (.slice (some ⟨c, 0, none⟩) nc kc'))) ∧ Lst w' (some ⟨p, 0, none⟩) m.ad ∧ Lst w' (some ⟨q, 0, none⟩) m.be ∧ G10.SLst w' (some ⟨g, 0, none⟩) gs ∧ C11.CLst w' (some ⟨c, 0, none⟩) cs ∧ Below w.heap.size w w'
set_option maxRecDepth 8000 in
set_option maxHeartbeats 8000000 in
theorem copy_any (m : Mt) (aa ab ga ca : Option Addr) (na nb ng nc ka kb kg kc : Nat) (gs : List ByteArray) (cs : List C11.Ch) (w : World) (hna : m.ad.length = na) (hnb : m.be.length = nb) (hng : gs.length = ng) (hnc : cs.length = nc) (hma : na ≤ 100000) (hmb : nb ≤ 100000) (hmg : ng ≤ 100000) (hmc : nc ≤ 100000) (hA : Lst w aa m.ad) (hB : Lst w ab m.be) (hG : G10.SLst w ga gs) (hC : C11.CLst w ca cs) :
    Calls Tryd.prog 9 #[.agg (fcs m (.slice aa na ka) (.slice ab nb kb) (.slice ga ng kg) (.slice ca nc kc))] w (CoR m gs cs na nb ng nc w) := by
  have CM := hide (fun (u : World) (hu : Below w.heap.size w u) => cp_new m aa ab na ka nb kb u hna hnb hma hmb (hA.below hu) (hB.below hu))
  have CS := hide (fun (u : World) (H : Nat) (hu : Below w.heap.size w u) => app_S2 u H ga ng kg gs hng hmg (hG.below hu))
  have CC := hide (fun (u : World) (H : Nat) (hu : Below w.heap.size w u) => app_C3 u H ca nc kc cs hnc hmc (hC.below hu))
  have b1 := (Below.refl w.heap.size w).alloc (Nat.le_refl _) (.cells (fcs m (.slice aa na ka) (.slice ab nb kb) (.slice ga ng kg) (.slice ca nc kc)) 29)
  have k1 := Blk.new w (fcs m (.slice aa na ka) (.slice ab nb kb) (.slice ga ng kg) (.slice ca nc kc)) 29
  have z1 : (w.alloc (.cells (fcs m (.slice aa na ka) (.slice ab nb kb) (.slice ga ng kg) (.slice ca nc kc)) 29)).heap.size = w.heap.size + 1 := by simp
  obtain ⟨up, sc, de, gap, b0, b1', b2, b3, lg, ad, be⟩ := m
  simp only [mcs, fcs] at CM b1 k1 z1 ⊢
  clear hna hnb hng hnc hma hmb hmg hmc hA hB hG hC
  go_enter Tryd.func9, Tryd.ntmps9
  go_wp2_with fail
  rw [← z1]
  generalize w.alloc (.cells #[.int .i64 up, .int .i64 sc, .int .i64 de, .int .i64 gap, .int .i64 b0, .int .i64 b1', .int .i64 b2, .int .i64 b3, .bool lg, .slice aa na ka, .slice ab nb kb, .slice ga ng kg, .slice ca nc kc] 29) = U at b1 k1 z1 ⊢
  have bU := (Below.refl U.heap.size U).alloc (Nat.le_refl _) (.cells zf 29)
  have kZ := Blk.new U zf 29
  have k2 := k1.below bU
  have b2' := below_t5 b1 bU
  generalize U.alloc (.cells zf 29) = V at bU kZ k2 b2' ⊢
  obtain ⟨F, hF⟩ : ∃ F, w.heap.size = F := ⟨_, rfl⟩
  obtain ⟨R, hR⟩ : ∃ R, U.heap.size = R := ⟨_, rfl⟩
  rw [hF] at k2
  rw [hR] at kZ ⊢
  have KS : Hid (∀ x, Blk x F #[.int .i64 up, .int .i64 sc, .int .i64 de, .int .i64 gap, .int .i64 b0, .int .i64 b1', .int .i64 b2, .int .i64 b3, .bool lg, .slice aa na ka, .slice ab nb kb, .slice ga ng kg, .slice ca nc kc] 29 → F < x.heap.size ∧ x.cell? ⟨F, 0, none⟩ = some (.int .i64 up) ∧ x.cell? ⟨F, 1, none⟩ = some (.int .i64 sc) ∧ x.cell? ⟨F, 2, none⟩ = some (.int .i64 de) ∧ x.cell? ⟨F, 3, none⟩ = some (.int .i64 gap) ∧ x.cell? ⟨F, 4, none⟩ = some (.int .i64 b0) ∧ x.cell? ⟨F, 5, none⟩ = some (.int .i64 b1') ∧ x.cell? ⟨F, 6, none⟩ = some (.int .i64 b2) ∧ x.cell? ⟨F, 7, none⟩ = some (.int .i64 b3) ∧ x.cell? ⟨F, 8, none⟩ = some (.bool lg) ∧ x.cell? ⟨F, 9, none⟩ = some (.slice aa na ka) ∧ x.cell? ⟨F, 10, none⟩ = some (.slice ab nb kb) ∧ x.cell? ⟨F, 11, none⟩ = some (.slice ga ng kg) ∧ x.cell? ⟨F, 12, none⟩ = some (.slice ca nc kc)) := hide fun x hx => by
    have k := hx
    exact ⟨k.lt, by simpa using k.cell 0, by simpa using k.cell 1, by simpa using k.cell 2, by simpa using k.cell 3, by simpa using k.cell 4, by simpa using k.cell 5, by simpa using k.cell 6, by simpa using k.cell 7, by simpa using k.cell 8, by simpa using k.cell 9, by simpa using k.cell 10, by simpa using k.cell 11, by simpa using k.cell 12⟩
  have HKF := hide k2
  have HNE : Hid (F ≠ R) := hide (by omega)
  have HX := hide (Below.refl V.heap.size V)
  have HBV := hide b2'
  have HKZ := hide kZ
  have KEEP : Hid (∀ x : World, Below V.heap.size V x → True) := hide (fun _ _ => trivial)
  have HWR : Hid (w.heap.size ≤ R) := hide (by omega)
  have HRV : Hid (R < V.heap.size) := hide kZ.lt
  have HFR : Hid (w.heap.size = F ∧ U.heap.size = R) := hide ⟨hF, hR⟩
  have CM1 := hide (fun (u : World) (hu : Below V.heap.size V u) => CM.out u (below_t5 b2' hu))
  have CS1 := hide (fun (u : World) (H : Nat) (hu : Below V.heap.size V u) => CS.out u H (below_t5 b2' hu))
  have CC1 := hide (fun (u : World) (H : Nat) (hu : Below V.heap.size V u) => CC.out u H (below_t5 b2' hu))
  rw [hF]
  clear b1 k1 z1 bU kZ k2 b2' hF hR CM CS CC
  go_region_held3 (fun x => F < x.heap.size ∧ x.cell? ⟨F, 0, none⟩ = some (.int .i64 up) ∧ x.cell? ⟨F, 1, none⟩ = some (.int .i64 sc) ∧ x.cell? ⟨F, 2, none⟩ = some (.int .i64 de) ∧ x.cell? ⟨F, 3, none⟩ = some (.int .i64 gap) ∧ x.cell? ⟨F, 4, none⟩ = some (.int .i64 b0) ∧ x.cell? ⟨F, 5, none⟩ = some (.int .i64 b1') ∧ x.cell? ⟨F, 6, none⟩ = some (.int .i64 b2) ∧ x.cell? ⟨F, 7, none⟩ = some (.int .i64 b3) ∧ x.cell? ⟨F, 8, none⟩ = some (.bool lg) ∧ x.cell? ⟨F, 9, none⟩ = some (.slice aa na ka) ∧ x.cell? ⟨F, 10, none⟩ = some (.slice ab nb kb) ∧ x.cell? ⟨F, 11, none⟩ = some (.slice ga ng kg) ∧ x.cell? ⟨F, 12, none⟩ = some (.slice ca nc kc)) ((refine KS.out _ ?_; repeat (first | refine Blk.other ?_ HNE.out _ _ | (refine Blk.below HKF.out ?_; repeat (first | exact HX.out | refine ba ?_ _ | refine bdr ?_))))) ((first | (go_at_call 22; refine (CM1.out _ ?_).mono ?_; (repeat (first | exact HX.out | refine ba ?_ _ | refine bdr ?_)); rintro e wy ⟨p, q, cp, cq, rfl, hl1, hl2, hy, hp1, hq1⟩; (try clear r0 r1 r2 r3 r4 r5 r6 r7 r8 r9 r10 r11 r12 z0 z1 z2 z3 z4 z5 z6 z7 z8 z9 z10 z11 z12 rlt); have HX0 := HX; have HK0 := KEEP; replace HX := hide (show Below V.heap.size V wy from below_t5 (by repeat (first | exact HX0.out | refine ba ?_ _ | refine bdr ?_)) hy); replace KEEP := hide (fun (x : World) (hx : Below wy.heap.size wy x) => And.intro (HK0.out x (below_t5 (below_t5 (by repeat (first | exact Below.refl _ _ | refine ba ?_ _ | refine bdr ?_)) hy) hx)) (And.intro (hl1.below hx) (hl2.below hx))); have HPQ := hide (And.intro (Nat.le_trans (show Below V.heap.size V _ from (by repeat (first | exact HX0.out | refine ba ?_ _ | refine bdr ?_))).size hp1) (Nat.le_trans (show Below V.heap.size V _ from (by repeat (first | exact HX0.out | refine ba ?_ _ | refine bdr ?_))).size hq1)); clear HX0 HK0 hl1 hl2 hy hp1 hq1; have kR := HKZ.out.below HX.out; have r0 := kR.cell 0; have z0 := kR.frozen 0; have r1 := kR.cell 1; have z1 := kR.frozen 1; have r2 := kR.cell 2; have z2 := kR.frozen 2; have r3 := kR.cell 3; have z3 := kR.frozen 3; have r4 := kR.cell 4; have z4 := kR.frozen 4; have r5 := kR.cell 5; have z5 := kR.frozen 5; have r6 := kR.cell 6; have z6 := kR.frozen 6; have r7 := kR.cell 7; have z7 := kR.frozen 7; have r8 := kR.cell 8; have z8 := kR.frozen 8; have r9 := kR.cell 9; have z9 := kR.frozen 9; have r10 := kR.cell 10; have z10 := kR.frozen 10; have r11 := kR.cell 11; have z11 := kR.frozen 11; have r12 := kR.cell 12; have z12 := kR.frozen 12; simp at r0 r1 r2 r3 r4 r5 r6 r7 r8 r9 r10 r11 r12; have rlt := kR.lt; clear kR) | (refine step_append_ex _ (by rfl) _ _ _ _ rfl _ _ (by rfl) (by rfl) (CS1.out _ _ ?_) ?_; (repeat (first | exact HX.out | refine ba ?_ _ | refine bdr ?_)); rintro g gc wq ⟨hl, hy⟩; (try clear r0 r1 r2 r3 r4 r5 r6 r7 r8 r9 r10 r11 r12 z0 z1 z2 z3 z4 z5 z6 z7 z8 z9 z10 z11 z12 rlt); have HX0 := HX; have HK0 := KEEP; replace HX := hide (show Below V.heap.size V wq from below_t5 (by repeat (first | exact HX0.out | refine ba ?_ _ | refine bdr ?_)) hy); replace KEEP := hide (fun (x : World) (hx : Below wq.heap.size wq x) => And.intro (HK0.out x (below_t5 (below_t5 (by repeat (first | exact Below.refl _ _ | refine ba ?_ _ | refine bdr ?_)) hy) hx)) (hl.below hx)); clear HX0 HK0 hl hy; have kR := HKZ.out.below HX.out; have r0 := kR.cell 0; have z0 := kR.frozen 0; have r1 := kR.cell 1; have z1 := kR.frozen 1; have r2 := kR.cell 2; have z2 := kR.frozen 2; have r3 := kR.cell 3; have z3 := kR.frozen 3; have r4 := kR.cell 4; have z4 := kR.frozen 4; have r5 := kR.cell 5; have z5 := kR.frozen 5; have r6 := kR.cell 6; have z6 := kR.frozen 6; have r7 := kR.cell 7; have z7 := kR.frozen 7; have r8 := kR.cell 8; have z8 := kR.frozen 8; have r9 := kR.cell 9; have z9 := kR.frozen 9; have r10 := kR.cell 10; have z10 := kR.frozen 10; have r11 := kR.cell 11; have z11 := kR.frozen 11; have r12 := kR.cell 12; have z12 := kR.frozen 12; simp at r0 r1 r2 r3 r4 r5 r6 r7 r8 r9 r10 r11 r12; have rlt := kR.lt; clear kR) | (refine step_append_ex _ (by rfl) _ _ _ _ rfl _ _ (by rfl) (by rfl) (CC1.out _ _ ?_) ?_; (repeat (first | exact HX.out | refine ba ?_ _ | refine bdr ?_)); rintro c ccp wz ⟨hl, hy, hc1⟩; (try clear r0 r1 r2 r3 r4 r5 r6 r7 r8 r9 r10 r11 r12 z0 z1 z2 z3 z4 z5 z6 z7 z8 z9 z10 z11 z12 rlt); have HX0 := HX; have HK0 := KEEP; replace HX := hide (show Below V.heap.size V wz from below_t5 (by repeat (first | exact HX0.out | refine ba ?_ _ | refine bdr ?_)) hy); replace KEEP := hide (fun (x : World) (hx : Below wz.heap.size wz x) => And.intro (HK0.out x (below_t5 (below_t5 (by repeat (first | exact Below.refl _ _ | refine ba ?_ _ | refine bdr ?_)) hy) hx)) (hl.below hx)); have HCF := hide (hc1.imp id (fun h => Nat.le_trans (show Below V.heap.size V _ from (by repeat (first | exact HX0.out | refine ba ?_ _ | refine bdr ?_))).size h)); clear HX0 HK0 hl hy hc1; have kR := HKZ.out.below HX.out; have r0 := kR.cell 0; have z0 := kR.frozen 0; have r1 := kR.cell 1; have z1 := kR.frozen 1; have r2 := kR.cell 2; have z2 := kR.frozen 2; have r3 := kR.cell 3; have z3 := kR.frozen 3; have r4 := kR.cell 4; have z4 := kR.frozen 4; have r5 := kR.cell 5; have z5 := kR.frozen 5; have r6 := kR.cell 6; have z6 := kR.frozen 6; have r7 := kR.cell 7; have z7 := kR.frozen 7; have r8 := kR.cell 8; have z8 := kR.frozen 8; have r9 := kR.cell 9; have z9 := kR.frozen 9; have r10 := kR.cell 10; have z10 := kR.frozen 10; have r11 := kR.cell 11; have z11 := kR.frozen 11; have r12 := kR.cell 12; have z12 := kR.frozen 12; simp at r0 r1 r2 r3 r4 r5 r6 r7 r8 r9 r10 r11 r12; have rlt := kR.lt; clear kR)))
  all_goals (
    have kR := HKZ.out.below HX.out
    have hst := store13 kR (.int .i64 up) (.int .i64 sc) (.int .i64 de) (.int .i64 gap) (.int .i64 b0) (.int .i64 b1') (.int .i64 b2) (.int .i64 b3) (.bool lg) (.slice (some ⟨p, 0, none⟩) na cp) (.slice (some ⟨q, 0, none⟩) nb cq) (.slice (some ⟨g, 0, none⟩) ng gc) (.slice (some ⟨c, 0, none⟩) nc ccp)
    have hl := KEEP.out _ (Below.refl _ _)
    have hbe := hst.2.below (below_t5 HBV.out HX.out) HWR.out
    have hrv := HRV.out
    have hpq := HPQ.out
    have u1 := hl.1.1.2.1.but hst.2 (by omega)
    have u2 := hl.1.1.2.2.but hst.2 (by omega)
    have u3 := slst_but hl.1.2 hst.2 kR (fun _ _ => nos)
    have u4 := clst_but hl.2 hst.2 (HCF.out.imp id (fun h => ⟨_, rfl, by omega⟩))
    clear r0 r1 r2 r3 r4 r5 r6 r7 r8 r9 r10 r11 r12 z0 z1 z2 z3 z4 z5 z6 z7 z8 z9 z10 z11 z12 rlt hl hrv hpq kR
    generalize (((((((((((((wz.setCell ⟨R, 0, none⟩ (.int .i64 up)).setCell ⟨R, 1, none⟩ (.int .i64 sc)).setCell ⟨R, 2, none⟩ (.int .i64 de)).setCell ⟨R, 3, none⟩ (.int .i64 gap)).setCell ⟨R, 4, none⟩ (.int .i64 b0)).setCell ⟨R, 5, none⟩ (.int .i64 b1')).setCell ⟨R, 6, none⟩ (.int .i64 b2)).setCell ⟨R, 7, none⟩ (.int .i64 b3)).setCell ⟨R, 8, none⟩ (.bool lg)).setCell ⟨R, 9, none⟩ (.slice (some ⟨p, 0, none⟩) na cp)).setCell ⟨R, 10, none⟩ (.slice (some ⟨q, 0, none⟩) nb cq)).setCell ⟨R, 11, none⟩ (.slice (some ⟨g, 0, none⟩) ng gc)).setCell ⟨R, 12, none⟩ (.slice (some ⟨c, 0, none⟩) nc ccp)) = Z at hst hbe u1 u2 u3 u4 ⊢
    have qq0 := hst.1.cell 0
    have qq1 := hst.1.cell 1
    have qq2 := hst.1.cell 2
    have qq3 := hst.1.cell 3
    have qq4 := hst.1.cell 4
    have qq5 := hst.1.cell 5
    have qq6 := hst.1.cell 6
    have qq7 := hst.1.cell 7
    have qq8 := hst.1.cell 8
    have qq9 := hst.1.cell 9
    have qq10 := hst.1.cell 10
    have qq11 := hst.1.cell 11
    have qq12 := hst.1.cell 12
    simp at qq0 qq1 qq2 qq3 qq4 qq5 qq6 qq7 qq8 qq9 qq10 qq11 qq12
    (try go_wp2_with fail)
    exact bodyPost_ret (v := .agg #[.int .i64 up, .int .i64 sc, .int .i64 de, .int .i64 gap, .int .i64 b0, .int .i64 b1', .int .i64 b2, .int .i64 b3, .bool lg, .slice (some ⟨p, 0, none⟩) na cp, .slice (some ⟨q, 0, none⟩) nb cq, .slice (some ⟨g, 0, none⟩) ng gc, .slice (some ⟨c, 0, none⟩) nc ccp]) (by simp [results, Tryd.results9, go_sem, qq0, qq1, qq2, qq3, qq4, qq5, qq6, qq7, qq8, qq9, qq10, qq11, qq12]) rfl ⟨p, q, g, c, cp, cq, gc, ccp, rfl, u1, u2, u3, u4, hbe⟩)
end Go.Proofs.YthnpnkiomknkeaaDoor.F12
