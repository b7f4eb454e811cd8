/-
  Joined: S13R.
-/
import Derived.Test.YthnpnkiomknkeaaDoorC18
import Derived.Test.YthnpnkiomknkeaaDoorC23
import Derived.Test.YthnpnkiomknkeaaDoorC26
namespace Go.Proofs.YthnpnkiomknkeaaDoor.S13
open Go.RowKit Go.Deep Go.Maps Go.Proofs.YthnpnkiomknkeaaDoor.F12
set_option linter.unusedVariables false
set_option linter.unusedSimpArgs false
theorem plst_bool {w : World} {a : Option Addr} {pss : List (List Nat)} {nk j : Nat} {o : List Bool} {t : TypeId} (h : PLst w a pss) (hk : Blk w nk (blA o) t) (v : Value) : PLst (w.setCell ⟨nk, j, none⟩ v) a pss := by
  have hn : ∀ (v : Value), (∀ b, v ≠ .bool b) → (blA o)[j]? ≠ some v := fun v hv e => by
    have hl : j < o.length := by
      have := (Array.getElem?_eq_some_iff.1 e).1
      simpa using this
    rw [blA_at o j hl] at e
    injection e with e
    exact hv _ e.symm
  rcases h with h | ⟨b, of, h1, h2, h3⟩
  · exact Or.inl h
  · refine Or.inr ⟨b, of, h1, by simpa [World.setCell] using h2, fun i ps hi => ?_⟩
    obtain ⟨pa, c, hc, hl⟩ := h3 i ps hi
    refine ⟨pa, c, ?_, lst_setB hl hk j (fun x => hn _ (fun b e => by cases e)) v⟩
    rw [World.cell?_setCell_other]
    · exact hc
    · intro e
      rw [← e, hk.cell j] at hc
      exact hn _ (fun b e => by cases e) hc
theorem blk_true {w : World} {nk i : Nat} {o : List Bool} {t : TypeId} (h : Blk w nk (blA o) t) : Blk (w.setCell ⟨nk, i, none⟩ (.bool true)) nk (blA (o.set i true)) t := by
  rw [← blA_set]; exact h.set i _
set_option maxRecDepth 8000 in
set_option maxHeartbeats 16000000 in
theorem rclose_any (m : Mt) (aa ab ga ca ua : Option Addr) (na nb ng nc ka kb kg kc un uc : Nat) (gs : List ByteArray) (cs : List C11.Ch) (zs : List Int) (w : World) (hM : MIn w m aa na ab nb) (hng : gs.length = ng) (hnc : cs.length = nc) (hma : na ≤ 1000000) (hmb : nb ≤ 1000000) (hmg : ng ≤ 1000000) (hmc : nc ≤ 1000000) (hz : ∀ g ∈ gs, g.size ≤ 1000000) (hG : G10.SLst w ga gs) (hC : C11.CLst w ca cs) (hun : zs.length = un) (hum : un ≤ 1000000) (hU : Lst w ua zs) :
    Calls Tryd.prog 10 #[.agg (fcs m (.slice aa na ka) (.slice ab nb kb) (.slice ga ng kg) (.slice ca nc kc)), .slice ua un uc] w (CloR m gs cs zs ng w) := by
  have bw := (Below.refl w.heap.size w).alloc (Nat.le_refl _) (.cells (fcs m (.slice aa na ka) (.slice ab nb kb) (.slice ga ng kg) (.slice ca nc kc)) 29)
  have k1 := Blk.new w (fcs m (.slice aa na ka) (.slice ab nb kb) (.slice ga ng kg) (.slice ca nc kc)) 29
  have CK := hide (rcheck_any m aa ab ga ca na nb ng nc ka kb kg kc gs cs _ ⟨hM.up, hM.hna, hM.hnb, hM.ma, hM.mb, hM.la.below bw, hM.lb.below bw, hM.xa, hM.xb⟩ hng hnc hma hmb hmg hmc hz (hG.below bw) (hC.below bw))
  have HB1 := hide bw
  have HK1 := hide k1
  have HG1 := hide (hG.below bw)
  have HU1 := hide (hU.below bw)
  have HNG := hide hng
  have HUN := hide hun
  have HZ := hide hz
  have hum' : (un : Int) ≤ 1000000 := by omega
  obtain ⟨R, hR⟩ : ∃ R, ckV m gs cs = R := ⟨_, rfl⟩
  have HR := hide hR
  rw [hR] at CK
  clear hM hng hnc hma hmb hmg hmc hz hG hC hun hum hU bw k1 hR
  go_enter Tryd.func10, Tryd.ntmps10
  go_wp2_with fail
  refine CK.out.mono ?_
  rintro e w1 ⟨rfl, h1⟩
  have hk := HK1.out.below h1
  have e11 := hk.cell 11
  simp at e11
  have xlt := hk.lt
  have HB2 := hide (below_t5 HB1.out h1)
  have HK2 := hide hk
  have HG2 := hide (HG1.out.below h1)
  have HU2 := hide (HU1.out.below h1)
  clear h1 hk HB1 HK1 HG1 HU1 CK
  by_cases hr0 : R = 0
  case neg =>
    have hr1 : (R == 0) = false := by simp [hr0]
    go_wp2_with fail
    go_ret2
    exact ⟨HB2.out, Or.inl ⟨by rw [HR.out]; exact hr0, by rw [HR.out]; rfl⟩⟩
  subst hr0
  obtain ⟨⟨hn1, hn4⟩, pss, hp, hd, _, _, _⟩ := ck_in HR.out
  rw [HNG.out] at hn1 hn4
  have hpb := (cp_bd hp).2
  rw [HNG.out] at hpb
  have hpl := (cp_bd hp).1
  rw [HNG.out] at hpl
  have HP := hide hp
  have HPB := hide hpb
  have HPL := hide hpl
  have HD := hide hd
  have hn4' : (ng : Int) ≤ 4096 := by omega
  have hn1' : (0 : Int) < (ng : Int) := by omega
  have HN4 := hide (And.intro hn1 hn4)
  have MK := make_bools ng (by omega)
  have k0 : Blk (w1.alloc (.cells (Array.replicate ng (.bool false)) 4)) w1.heap.size (blA (List.replicate ng false)) 4 := by rw [← blA_no]; exact Blk.new w1 _ _
  have nc := k0.cell 0
  rw [blA_at _ 0 (by simp; omega)] at nc
  have nf := k0.frozen 0
  have nl := k0.lt
  have HS0 : Hid (Blk (w1.alloc (.cells ((Array.replicate ng (.bool false)).setIfInBounds 0 (.bool true)) 4)) w1.heap.size (blA ((List.replicate ng false).set 0 true)) 4 ∧ Below w1.heap.size w1 (w1.alloc (.cells ((Array.replicate ng (.bool false)).setIfInBounds 0 (.bool true)) 4))) :=
    hide ⟨by rw [← blA_set, ← blA_no]; exact Blk.new w1 _ _, (Below.refl w1.heap.size w1).alloc (Nat.le_refl _) _⟩
  clear hp hd hpb hpl k0 hn1 hn4
  go_wp2_with fail
  generalize w1.alloc (.cells ((Array.replicate ng (.bool false)).setIfInBounds 0 (.bool true)) 4) = V0 at HS0 ⊢
  clear nc nf nl MK
  go_loopw [8] (fun vi wr => ∃ k : Nat, vi = .int .i64 (k : Int) ∧ Hid (k ≤ un ∧ ∃ o, Blk wr w1.heap.size (blA o) 4 ∧ o.length = ng ∧ (∀ j, yes o j = true ↔ j ∈ 0 :: (zs.take k).map Int.toNat) ∧ (∀ z ∈ zs.take k, 0 ≤ z ∧ z < (ng : Int)) ∧ Below w1.heap.size w1 wr)) (fun vi _ => un - (intOf vi).toNat)
  case atStart =>
    refine ⟨0, rfl, hide ⟨by omega, _, HS0.out.1, by simp, fun j => ?_, fun z hz => by simp at hz, HS0.out.2⟩⟩
    rw [yes_set _ 0 j (by have := HN4.out; simp; omega), yes_rep]
    simp [eq_comm]
  case round =>
    clear HS0 e11
    obtain ⟨k, rfl, HV⟩ := hrel
    obtain ⟨hk, o, hO, hol, hS, hA, hb⟩ := HV.out
    have hk0 : (0 : Int) ≤ (k : Int) := by omega
    have hkk := HK2.out.below hb
    have e11 := hkk.cell 11
    simp at e11
    have xlt2 := hkk.lt
    clear HV hkk
    have HO := hide hO
    have HOL := hide hol
    have HS := hide hS
    have HA := hide hA
    have HB := hide hb
    by_cases hlt : k < un
    case pos =>
      have hlt' : (k : Int) < (un : Int) := by omega
      have hzl : k < zs.length := by rw [HUN.out]; exact hlt
      rcases HU2.out.below hb with hz | ⟨b, of, rfl, hbl, hcell⟩
      · rw [hz] at hzl; simp at hzl
      have hc := hcell k hzl
      have HMS := hide (fun j => mem_snoc hzl j)
      have HAS := hide (fun h2 => all_snoc (n := ng) hzl HA.out h2)
      have HNO := hide (fun h2 => usV_no (n := ng) hzl h2)
      generalize zs.getD k 0 = z at hc HMS HAS HNO
      by_cases hz0 : z < 0
      · have HF := hide (HNO.out (by omega))
        clear HMS HAS HNO hb hO hol hS hA hcell hk hzl
        go_wp2_with fail
        go_ret2
        exact ⟨below_t5 HB2.out HB.out, Or.inr (Or.inl ⟨HR.out, HF.out, rfl⟩)⟩
      obtain ⟨g, rfl⟩ : ∃ g : Nat, z = (g : Int) := ⟨z.toNat, by omega⟩
      by_cases hz1 : (g : Int) < (ng : Int)
      case neg =>
        have HF := hide (HNO.out (by omega))
        have hz2 : (ng : Int) ≤ (g : Int) := by omega
        clear HMS HAS HNO hb hO hol hS hA hcell hk hzl
        go_wp2_with fail
        go_ret2
        exact ⟨below_t5 HB2.out HB.out, Or.inr (Or.inl ⟨HR.out, HF.out, rfl⟩)⟩
      have hz2 : ¬ (ng : Int) ≤ (g : Int) := by omega
      have hz3 : (0 : Int) ≤ (g : Int) := by omega
      have HAS2 := hide (HAS.out ⟨by omega, hz1⟩)
      have hgl : g < o.length := by rw [hol]; omega
      have HGL := hide hgl
      have nc := hO.cell g
      rw [blA_at o g hgl] at nc
      have nf := hO.frozen g
      have nl := hO.lt
      have HN := hide (show Blk (wr.setCell ⟨w1.heap.size, g, none⟩ (.bool true)) w1.heap.size (blA (o.set g true)) 4 ∧ Below w1.heap.size w1 (wr.setCell ⟨w1.heap.size, g, none⟩ (.bool true)) from ⟨blk_true hO, hb.setCell (p := ⟨w1.heap.size, g, none⟩) (Nat.le_refl _) _⟩)
      clear HAS HNO hb hO hol hS hA hcell hk hzl hgl
      go_wp2_with fail
      go_roundw
      case rel =>
        refine ⟨k + 1, by go_num, hide ⟨by omega, _, HN.out.1, by rw [List.length_set]; exact HOL.out, fun j => ?_, HAS2.out, HN.out.2⟩⟩
        rw [yes_set _ _ _ HGL.out, HMS.out j, ← HS.out j]
        simp only [Bool.or_eq_true, decide_eq_true_eq, Int.toNat_natCast]
        constructor
        · rintro (h | h)
          · exact Or.inr h.symm
          · exact Or.inl h
        · rintro (h | h)
          · exact Or.inr h
          · exact Or.inl h.symm
      case measure => simp [intOf]; omega
    case neg =>
      obtain rfl : un = k := by omega
      have hlt' : ¬ (un : Int) < (un : Int) := by omega
      have hzt : zs.take un = zs := List.take_of_length_le (by rw [HUN.out]; exact Nat.le_refl _)
      rw [hzt] at hS hA
      have hus := usV_yes hA
      have hul : ∀ s ∈ 0 :: zs.map Int.toNat, s < ng := fun s hs => by
        rcases List.mem_cons.1 hs with rfl | hs
        · exact HN4.out.1
        · exact usV_lt hus s hs
      have HUS := hide hus
      have HUL := hide hul
      have HI0 := hide (RI.start (pss := pss) hol (fun j _ => hS j))
      generalize zs.map Int.toNat = us at HUS HI0 HUL
      have CP := hide (rparts_any ga ng kg gs wr HNG.out HN4.out.2 HZ.out (HG2.out.below hb))
      clear hO hol hS hA hzt hk hlt HS HA hb hus hul HOL
      go_wp2_with fail
      refine CP.out.mono ?_
      rintro e w3 ⟨hb3, ⟨hcn, _⟩ | ⟨pss', hcs, g, rfl, hPL⟩⟩
      · rw [HP.out] at hcn; cases hcn
      rw [HP.out] at hcs
      injection hcs with hcs
      subst hcs
      have HS3 := hide (show Blk w3 w1.heap.size (blA o) 4 ∧ PLst w3 (some ⟨g, 0, none⟩) pss ∧ Below w1.heap.size w1 w3 from ⟨HO.out.below hb3, hPL, HB.out.trans (hb3.mono HB.out.size)⟩)
      clear hb3 hPL CP HO HB e11 xlt2
      go_wp2_with fail
      go_loopw [11] (fun vi wr => ∃ r : Nat, vi = .int .i64 (r : Int) ∧ Hid (r ≤ 9 ∧ ∃ o, Blk wr w1.heap.size (blA o) 4 ∧ PLst wr (some ⟨g, 0, none⟩) pss ∧ Below w1.heap.size w1 wr ∧ RI pss (0 :: us) ng r 0 0 o)) (fun vi _ => 9 - (intOf vi).toNat)
      case atStart => exact ⟨0, rfl, hide ⟨by omega, o, HS3.out.1, HS3.out.2.1, HS3.out.2.2, HI0.out⟩⟩
      case round =>
        clear HS3 HI0 o
        obtain ⟨r, rfl, HV⟩ := hrel
        obtain ⟨hr, o, hO, hPL, hb, hI⟩ := HV.out
        have hr0 : (0 : Int) ≤ (r : Int) := by omega
        clear HV
        by_cases hlt : r < 9
        case neg =>
          obtain rfl : r = 9 := by omega
          have hlt' : ¬ ((9 : Nat) : Int) < 9 := by omega
          have HC := hide (hI.fin HD.out HPL.out HUL.out)
          have HO := hide hO
          have HB := hide hb
          have hol := HC.out.len
          clear hO hPL hb hI hr hlt
          go_wp2_with fail
          obtain ⟨V, hV⟩ : ∃ V, wr = V := ⟨_, rfl⟩
          rw [hV] at HO HB ⊢
          clear hV
          go_loopw [14, 15] (fun a vi wr => ∃ k : Nat, vi = .int .i64 (k : Int) ∧ Hid (k ≤ ng ∧ IRow wr V.heap.size a (G10.ints (plV o k)) ∧ Below V.heap.size V wr)) (fun _ vi _ => ng - (intOf vi).toNat)
          case atStart => exact ⟨0, rfl, hide ⟨by omega, IRow.nil _ _, Below.refl _ _⟩⟩
          case round =>
            obtain ⟨k, rfl, HV⟩ := hrel
            obtain ⟨k1, k2, k3⟩ := HV.out
            have hk0 : (0 : Int) ≤ (k : Int) := by omega
            clear HV
            by_cases hlt : k < ng
            · have hlt' : (k : Int) < (ng : Int) := by omega
              have K2 := hide k2
              have K3 := hide k3
              have oc := (HO.out.kept k3 HO.out.lt).cell k
              rw [blA_at o k (by rw [hol]; exact hlt)] at oc
              have olt := (HO.out.kept k3 HO.out.lt).lt
              cases hy : yes o k
              · rw [hy] at oc
                have HS := hide (plV_no hy)
                clear k2 k3 hy
                go_wp2_with fail
                go_roundw
                case rel => exact ⟨k + 1, by go_num, hide ⟨by omega, by rw [HS.out]; exact K2.out, K3.out⟩⟩
                case measure => simp [intOf]; omega
              · rw [hy] at oc
                have HS := hide (plV_yes hy)
                obtain ⟨v', w2, hrr, r1, r2, r3, r4, r5⟩ := G10.app_i1 (k : Int) k2 k3.size (by rw [G10.ints_len]; have := plV_len o k; omega) wr.heap.size rfl
                have HRU := hide hrr
                have H5 : Hid (IRow w2 V.heap.size v' (G10.ints (plV o (k + 1)))) := hide (by rw [HS.out, G10.ints_snoc]; exact r1)
                have H6 := hide (k3.trans r5)
                clear hrr r1 r2 r3 r4 r5 k2 k3 HS hy
                go_wp2_with (at_builtin; refine Lib.wpList_append_run _ rfl _ _ _ _ rfl _ _ rfl rfl _ _ HRU.out ?_)
                go_roundw
                case rel => exact ⟨k + 1, by go_num, hide ⟨by omega, H5.out, H6.out⟩⟩
                case measure => simp [intOf]; omega
            · have hlt' : ¬ (k : Int) < (ng : Int) := by omega
              obtain rfl : k = ng := by omega
              have K2 := hide k2
              have HBE := hide (below_t5 HB2.out HB.out)
              have K3 := hide (below_t5 HBE.out k3)
              have HSZ := hide HBE.out.size
              clear k2 k3
              go_wp2_with fail
              go_ret2
              exact ⟨K3.out, Or.inr (Or.inr ⟨pss, us, o, _, HR.out, HP.out, HUS.out, HC.out, rfl, irow_low K2.out HSZ.out⟩)⟩
        case pos =>
          have hlt' : (r : Int) < 9 := by omega
          have HI1 := hide (And.intro hO (And.intro hPL (And.intro hb hI)))
          clear hO hPL hb hI hr hlt
          go_wp2_with fail
          go_loopw [12] (fun vi wr => ∃ i : Nat, vi = .int .i64 (i : Int) ∧ Hid (i ≤ ng ∧ ∃ o, Blk wr w1.heap.size (blA o) 4 ∧ PLst wr (some ⟨g, 0, none⟩) pss ∧ Below w1.heap.size w1 wr ∧ RI pss (0 :: us) ng r i 0 o)) (fun vi _ => ng - (intOf vi).toNat)
          case atStart => exact ⟨0, rfl, hide ⟨by omega, o, HI1.out⟩⟩
          case round =>
            clear HI1 o
            obtain ⟨i, rfl, HV⟩ := hrel
            obtain ⟨hi, o, hO, hPL, hb, hI⟩ := HV.out
            have hi0 : (0 : Int) ≤ (i : Int) := by omega
            clear HV
            by_cases hin : i < ng
            case neg =>
              obtain rfl : i = ng := by omega
              have hin' : ¬ (i : Int) < (i : Int) := by omega
              have HE := hide (And.intro hO (And.intro hPL (And.intro hb (hI.round HPB.out HUL.out))))
              clear hO hPL hb hI hi hin
              go_wp2_with fail
              go_roundw
              case rel => exact ⟨r + 1, by go_num, hide ⟨by omega, o, HE.out⟩⟩
              case measure => simp [intOf]; omega
            case pos =>
              have hin' : (i : Int) < (ng : Int) := by omega
              have HI2 := hide (And.intro hO (And.intro hPL (And.intro hb hI)))
              obtain ⟨ps, hps⟩ : ∃ ps, pss[i]? = some ps := ⟨_, List.getElem?_eq_getElem (by rw [HPL.out]; exact hin)⟩
              have hpt : pt pss i = ps := by unfold pt; rw [List.getD_eq_getElem?_getD, hps]; rfl
              have HPS := hide hps
              have HPT := hide hpt
              obtain ⟨L, hL⟩ : ∃ L, ps.length = L := ⟨_, rfl⟩
              have HLE := hide hL
              have hLm := (HPB.out ps (List.mem_of_getElem? hps)).1
              have hpn := (HPB.out ps (List.mem_of_getElem? hps)).2
              rw [hL] at hLm
              have HPN := hide hpn
              have hLm' : (L : Int) ≤ 1000000 := by omega
              clear hO hPL hb hI hi hps hpt hL hpn hLm
              go_wp2_with fail
              go_loopw [13] (fun vi wr => ∃ q : Nat, vi = .int .i64 (q : Int) ∧ Hid (q ≤ L ∧ ∃ o, Blk wr w1.heap.size (blA o) 4 ∧ PLst wr (some ⟨g, 0, none⟩) pss ∧ Below w1.heap.size w1 wr ∧ RI pss (0 :: us) ng r i q o ∧ (q = 0 ∨ yes o i = true))) (fun vi _ => L - (intOf vi).toNat)
              case atStart => exact ⟨0, rfl, hide ⟨by omega, o, HI2.out.1, HI2.out.2.1, HI2.out.2.2.1, HI2.out.2.2.2, Or.inl rfl⟩⟩
              case round =>
                clear HI2 o
                obtain ⟨q, rfl, HV⟩ := hrel
                obtain ⟨hq, o, hO, hPL, hb, hI, hqy⟩ := HV.out
                have hq0 : (0 : Int) ≤ (q : Int) := by omega
                clear HV
                have nc := hO.cell i
                rw [blA_at o i (by rw [hI.len]; exact hin)] at nc
                have nl := hO.lt
                cases hy : yes o i
                · rw [hy] at nc
                  obtain rfl : q = 0 := by rcases hqy with h | h; exact h; rw [hy] at h; cases h
                  have HE := hide (And.intro hO (And.intro hPL (And.intro hb (hI.skip hin hy))))
                  clear hO hPL hb hI hqy hy hq
                  go_wp2_with fail
                  go_roundw
                  case rel => exact ⟨i + 1, by go_num, hide ⟨by omega, o, HE.out⟩⟩
                  case measure => simp [intOf]; omega
                · rw [hy] at nc
                  obtain ⟨pa, pc, gl, hc1, hl1⟩ : ∃ pa c, g < wr.heap.size ∧ wr.cell? ⟨g, i, none⟩ = some (.slice pa L c) ∧ Lst wr pa (G10.ints ps) := by
                    rcases hPL with hz | ⟨b, of, h1, h2, h3⟩
                    · have := HPL.out; rw [hz] at this; simp at this; omega
                    · injection h1 with h1
                      injection h1 with e1 e2 _
                      subst e1 e2
                      obtain ⟨pa, c, h4, h5⟩ := h3 i ps HPS.out
                      rw [Nat.zero_add, HLE.out] at h4
                      exact ⟨pa, c, h2, h4, h5⟩
                  by_cases hql : q < L
                  case neg =>
                    obtain rfl : q = L := by omega
                    have hql' : ¬ (q : Int) < (q : Int) := by omega
                    have HE := hide (And.intro hO (And.intro hPL (And.intro hb (hI.full (by rw [HPT.out, HLE.out]; exact Nat.le_refl _)))))
                    clear hO hPL hb hI hqy hy hq hl1
                    go_wp2_with fail
                    go_roundw
                    case rel => exact ⟨i + 1, by go_num, hide ⟨by omega, o, HE.out⟩⟩
                    case measure => simp [intOf]; omega
                  case pos =>
                    have hql' : (q : Int) < (L : Int) := by omega
                    obtain ⟨p, hpk⟩ : ∃ p, ps[q]? = some p := ⟨_, List.getElem?_eq_getElem (by rw [HLE.out]; exact hql)⟩
                    have hpn := HPN.out p (List.mem_of_getElem? hpk)
                    have hpn' : (p : Int) < (ng : Int) := by omega
                    have hp0 : (0 : Int) ≤ (p : Int) := by omega
                    obtain ⟨pb, po, rfl, hpb, hpc⟩ : ∃ pb po, pa = some ⟨pb, po, none⟩ ∧ pb < wr.heap.size ∧ wr.cell? ⟨pb, po + q, none⟩ = some (.int .i64 (p : Int)) := by
                      rcases hl1 with hz | ⟨pb, po, h1, h2, h3⟩
                      · have := G10.ints_len ps; rw [hz, HLE.out] at this; simp at this; omega
                      · refine ⟨pb, po, h1, h2, ?_⟩
                        rw [h3 q (by rw [G10.ints_len, HLE.out]; exact hql)]
                        unfold G10.ints
                        rw [List.getD_eq_getElem?_getD, List.getElem?_map, hpk]
                        rfl
                    have pc1 := hO.cell p
                    rw [blA_at o p (by rw [hI.len]; exact hpn)] at pc1
                    have pf := hO.frozen p
                    have HE := hide (show Blk (wr.setCell ⟨w1.heap.size, p, none⟩ (.bool true)) w1.heap.size (blA (o.set p true)) 4 ∧ PLst (wr.setCell ⟨w1.heap.size, p, none⟩ (.bool true)) (some ⟨g, 0, none⟩) pss ∧ Below w1.heap.size w1 (wr.setCell ⟨w1.heap.size, p, none⟩ (.bool true)) ∧ RI pss (0 :: us) ng r i (q + 1) (o.set p true) ∧ (q + 1 = 0 ∨ yes (o.set p true) i = true) from
                      ⟨blk_true hO, plst_bool hPL hO _, hb.setCell (p := ⟨w1.heap.size, p, none⟩) (Nat.le_refl _) _, hI.step hy (by rw [HPT.out]; exact hpk) hpn, Or.inr (by rw [yes_set _ _ _ (by rw [hI.len]; exact hpn), hy]; simp)⟩)
                    clear hO hPL hb hI hqy hy hq hl1 hpk hpn
                    go_wp2_with fail
                    go_roundw
                    case rel => exact ⟨q + 1, by go_num, hide ⟨by omega, _, HE.out⟩⟩
                    case measure => simp [intOf]; omega
end Go.Proofs.YthnpnkiomknkeaaDoor.S13
