/-
  Joined: G10Nr.
-/
import Derived.Lib.MinMax
import Derived.Shelf.Slices.Turned
import Derived.Shelf.Strings.Trim
import Derived.Test.YthnpnkiomknkeaaDoorProg
import Derived.Test.YthnpnkiomknkeaaDoorC01
import Derived.Test.YthnpnkiomknkeaaDoorC13
import Derived.Test.YthnpnkiomknkeaaDoorC14
import Derived.Test.YthnpnkiomknkeaaDoorC15
import Derived.Test.YthnpnkiomknkeaaDoorC16
import Derived.Test.YthnpnkiomknkeaaDoorD01
import Derived.Test.YthnpnkiomknkeaaDoorD02
namespace Go.Proofs.YthnpnkiomknkeaaDoor.G10
open Go.RowKit Go.Deep
set_option linter.unusedVariables false
set_option linter.unusedSimpArgs false
theorem cat9 (a b : ByteArray) (h : a.size + b.size ≤ 10000000) : ∃ P : ByteArray, (∀ w, (Op.stringOp .add a b).run Tryd.prog w = .ok (.string P) w) ∧ P.data.toList = a.data.toList ++ b.data.toList ∧ P.size = a.size + b.size :=
  ⟨a ++ b, fun w => run_string_add_sum w a b (by omega), by rw [ByteArray.data_append, Array.toList_append], by rw [ByteArray.size_append]⟩
theorem put_cat {s P1 P2 : ByteArray} {m : List UInt8} {P : Nat} {j : Int} (hs : s.data.toList = m) (hP : P + 2 ≤ m.length) (h1 : P1.data.toList = (s.extract 0 P).data.toList ++ (⟨#[hiB j, loB j]⟩ : ByteArray).data.toList) (h2 : P2.data.toList = P1.data.toList ++ (s.extract (P + 2) s.size).data.toList) : P2.data.toList = put1 m P j := by
  rw [h2, h1, Lib.extract_data, Lib.extract_data, hs, put1_cut m P j hP, Nat.sub_zero, List.drop_zero]
  congr 1
  rw [List.take_of_length_le (by rw [List.length_drop, ← hs, ← Lib.size_eq]; omega)]
set_option maxRecDepth 8000 in
set_option maxHeartbeats 4000000 in
theorem rrenum_any (s : ByteArray) (a : Option Addr) (n c : Nat) (zs : List Int) (w : World) (hs : s.size ≤ 1000000) (hn : zs.length = n) (hm : n ≤ 1000000) (hL : Lst w a zs) :
    Calls Tryd.prog 28 #[.string s, .slice a n c] w (RnR w (renV s.data.toList zs (shV s.data.toList))) := by
  have C := rof_any s w hs
  have hbd : ∀ p ps, shV s.data.toList = some (p, ps) → (∀ x ∈ ps, x + 2 ≤ s.size) ∧ ps.length ≤ 64 := fun p ps h => by
    have := shV_bd h
    rw [← Lib.size_eq] at this
    exact this.2
  generalize shV s.data.toList = R at C hbd ⊢
  rcases R with _ | ⟨p, ps⟩
  · have C := hide C
    clear hbd
    go_enter Tryd.func28, Tryd.ntmps28
    go_wp2_with fail
    refine C.out.mono ?_
    rintro e w1 ⟨p, a1, n1, c1, a2, n2, c2, hp, rfl, h1⟩
    have H1 := hide (below_alloc h1 (.cells #[.int .i64 (p : Int), .slice a1 n1 c1, .slice a2 n2 c2] 85))
    clear h1
    go_wp2_with fail
    go_ret2
    exact ⟨rfl, H1.out⟩
  have C := hide C
  obtain ⟨hx, hl⟩ := hbd p ps rfl
  clear hbd
  have HXX := hide hx
  have hs' : (s.size : Int) ≤ 1000000 := by omega
  have hm' : (n : Int) ≤ 1000000 := by omega
  have hll : (ps.length : Int) ≤ 64 := by omega
  have HL := hide hL
  have HNL := hide hn
  clear hL hn
  go_enter Tryd.func28, Tryd.ntmps28
  go_wp2_with fail
  refine C.out.mono ?_
  rintro e w1 ⟨a1, c1, a2, c2, rfl, q1, q2, h1⟩
  have hb := (Below.refl w1.heap.size w1).alloc (Nat.le_refl _) (.cells #[.int .i64 (p : Int), .slice a1 ps.length c1, .slice a2 ps.length c2] 85)
  have H1 := hide (below_alloc h1 (.cells #[.int .i64 (p : Int), .slice a1 ps.length c1, .slice a2 ps.length c2] 85))
  have HQ1 := hide (q1.below hb)
  have HQ2 := hide (q2.below hb)
  have HK := hide (Blk.new w1 #[.int .i64 (p : Int), .slice a1 ps.length c1, .slice a2 ps.length c2] 85)
  clear h1 q1 q2 hb hx C
  go_upto_region 2 with (fail)
  generalize w1.heap.size = sb at HK ⊢
  generalize w1.alloc (.cells #[.int .i64 (p : Int), .slice a1 ps.length c1, .slice a2 ps.length c2] 85) = V at H1 HQ1 HQ2 HK ⊢
  have HLV := hide (HL.out.below H1.out)
  generalize hll0 : s.data.toList = l at HQ1 ⊢
  have HLL := hide hll0
  have HSL : Hid (l.length = s.size) := hide (by rw [← hll0]; exact (Lib.size_eq s).symm)
  obtain ⟨RR, hRR⟩ : ∃ RR, renV l zs (some (p, ps)) = RR := ⟨_, rfl⟩
  have HRX := hide hRR
  have HRR : Hid (rnV l zs ps l = RR) := hide hRR
  clear hll0 hRR HL
  go_wp2_with fail
  go_loopw [0, 8] (fun vg v wr => ∃ (k : Nat) (t : ByteArray) (m : List UInt8), vg = .string t ∧ v = .int .i64 (k : Int) ∧ Hid (k ≤ ps.length ∧ t.data.toList = m ∧ m.length = s.size ∧ rnV l zs (ps.drop k) m = RR ∧ Below V.heap.size V wr)) (fun _ v _ => ps.length - (intOf v).toNat)
  case atStart => exact ⟨0, s, l, rfl, rfl, hide ⟨by omega, HLL.out, HSL.out, HRR.out, Below.refl _ _⟩⟩
  case round =>
    obtain ⟨k, t, m, rfl, rfl, HV⟩ := hrel
    obtain ⟨k1, k2, k3, k4, k5⟩ := HV.out
    have hk0 : (0 : Int) ≤ (k : Int) := by omega
    have K2 := hide k2
    have K3 := hide k3
    have K4 := hide k4
    have K5 := hide k5
    have hts : t.size = s.size := by rw [Lib.size_eq, k2, k3]
    have hts' : (t.size : Int) = (s.size : Int) := by omega
    have HTS := hide hts
    have e0 : wr.cell? ⟨sb, 0, none⟩ = some (.int .i64 (p : Int)) := (HK.out.below k5).cell 0
    have e1 : wr.cell? ⟨sb, 1, none⟩ = some (.slice a1 ps.length c1) := (HK.out.below k5).cell 1
    have e2 : wr.cell? ⟨sb, 2, none⟩ = some (.slice a2 ps.length c2) := (HK.out.below k5).cell 2
    have hsb := (HK.out.below k5).lt
    clear HV k2 k3 k4 k5 HRR hts hts'
    by_cases hlt : k < ps.length
    case neg =>
      have hlt' : ¬ (k : Int) < (ps.length : Int) := by omega
      have E := hide (show RR = some m by rw [← K4.out, List.drop_eq_nil_of_le (by omega)]; rfl)
      have HT : Hid (t = ⟨m.toArray⟩) := hide (by
        cases t with | mk d =>
          have := K2.out
          simp at this
          rw [← this])
      go_wp2_with fail
      go_ret2
      first | rw [HRX.out, E.out] | rw [HLL.out, HRX.out, E.out]
      exact ⟨by rw [← HT.out]; rfl, below_t5 H1.out K5.out⟩
    have hlt' : (k : Int) < (ps.length : Int) := by omega
    have hP : ps.getD k 0 + 2 ≤ s.size := by
      have hmm : ps.getD k 0 ∈ ps := by
        rw [List.getD_eq_getElem?_getD, List.getElem?_eq_getElem hlt]
        exact List.getElem_mem hlt
      exact HXX.out _ hmm
    obtain ⟨b1, o1, rfl, hb1, hcell1⟩ : ∃ b o, a1 = some ⟨b, o, none⟩ ∧ b < wr.heap.size ∧ ∀ i, i < ps.length → wr.cell? ⟨b, o + i, none⟩ = some (.int .i64 ((n2 l (ps.getD i 0) : Nat) : Int)) := by
      rcases HQ1.out.below K5.out with hz | ⟨b, o, h1, h2, h3⟩
      · exfalso
        have : (ints (prV l ps)).length = ps.length := by rw [ints_len]; unfold prV; rw [List.length_map]
        rw [hz] at this
        simp at this
        omega
      · refine ⟨b, o, h1, h2, fun i hi => ?_⟩
        have hpl : (prV l ps).length = ps.length := by unfold prV; rw [List.length_map]
        rw [h3 i (by rw [ints_len, hpl]; exact hi), ints_at _ _ (by rw [hpl]; exact hi)]
        unfold prV
        rw [List.getD_eq_getElem?_getD, List.getElem?_map, List.getElem?_eq_getElem hi, List.getD_eq_getElem?_getD, List.getElem?_eq_getElem hi]
        rfl
    obtain ⟨b2, o2, rfl, hb2, hcell2⟩ : ∃ b o, a2 = some ⟨b, o, none⟩ ∧ b < wr.heap.size ∧ ∀ i, i < ps.length → wr.cell? ⟨b, o + i, none⟩ = some (.int .i64 ((ps.getD i 0 : Nat) : Int)) := by
      rcases HQ2.out.below K5.out with hz | ⟨b, o, h1, h2, h3⟩
      · exfalso
        have := ints_len ps
        rw [hz] at this
        simp at this
        omega
      · exact ⟨b, o, h1, h2, fun i hi => by rw [h3 i (by rw [ints_len]; exact hi), ints_at _ _ hi]⟩
    have f1 := hcell1 k hlt
    have f2 := hcell2 k hlt
    have HS := hide (rn_drop (l := l) (old := zs) (m := m) hlt)
    have HLW := hide (HLV.out.below K5.out)
    have n0 : (0 : Int) ≤ ((ps.getD k 0 : Nat) : Int) := by omega
    have n1 : ((ps.getD k 0 : Nat) : Int) + 2 ≤ (t.size : Int) := by have := HTS.out; omega
    have n3 : (((ps.getD k 0 : Nat) : Int) + 2).toNat = ps.getD k 0 + 2 := by omega
    have n4 : ((ps.getD k 0 : Nat) : Int) ≤ (t.size : Int) := by have := HTS.out; omega
    have n5 : IntKind.i64.wrap (((ps.getD k 0 : Nat) : Int) + 2) = ((ps.getD k 0 : Nat) : Int) + 2 := by rw [IntKind.wrap_i64]; omega
    have n6 : (0 : Int) ≤ ((ps.getD k 0 : Nat) : Int) + 2 := by omega
    have n7 : (t.size : Int) ≤ 1000000 := by have := HTS.out; omega
    generalize ps.getD k 0 = P at f1 f2 HS n0 n1 n3 n4 n5 n6 hP
    generalize hX : n2 l P = X at f1 HS
    clear hcell1 hcell2 hX
    go_wp2_with fail
    go_loopw [9] (fun v wx => ∃ j q : Nat, v = .int .i64 (j : Int) ∧ wx = wr.drewN q ∧ Hid (j ≤ n ∧ ∀ i, i < j → zs.getD i 0 ≠ (X : Int))) (fun v _ => n - (intOf v).toNat)
    case atStart => exact ⟨0, 0, rfl, rfl, hide ⟨by omega, fun i hi => by omega⟩⟩
    case round =>
      obtain ⟨j, q, rfl, rfl, HV⟩ := hrel
      obtain ⟨j1, j2⟩ := HV.out
      have J2 := hide j2
      have hj0 : (0 : Int) ≤ (j : Int) := by omega
      clear HV j2
      have J2n := hide (show ∀ i, i < j → zs.getD i 0 ≠ (X : Int) from J2.out)
      by_cases hjn : j < n
      case neg =>
        obtain rfl : j = n := by omega
        have hjd : decide ((j : Int) < (j : Int)) = false := by simp
        have hjd' : ¬ (j : Int) < (j : Int) := by omega
        have hje : ((j : Int) == (j : Int)) = true := by simp
        have E := hide (show RR = none by rw [← K4.out, HS.out, fidx_not (k := j) (Or.inl HNL.out.symm) J2n.out])
        clear hjn
        go_wp2_with fail
        go_quiet (fail)
        go_wp2_with fail
        go_ret2
        first | rw [HRX.out, E.out] | rw [HLL.out, HRX.out, E.out]
        exact ⟨rfl, below_same (below_t5 H1.out K5.out) rfl rfl rfl rfl⟩
      have hjn' : (j : Int) < (n : Int) := by omega
      have hjd : decide ((j : Int) < (n : Int)) = true := by simpa using hjn'
      have hjd2 : decide (j < n) = true := by simpa using hjn
      obtain ⟨bo, oo, rfl, hbo, hcello⟩ : ∃ b o, a = some ⟨b, o, none⟩ ∧ b < wr.heap.size ∧ ∀ i, i < n → wr.cell? ⟨b, o + i, none⟩ = some (.int .i64 (zs.getD i 0)) := by
        rcases HLW.out with hz | ⟨b, o, h1, h2, h3⟩
        · exfalso; have := HNL.out; rw [hz] at this; simp at this; omega
        · exact ⟨b, o, h1, h2, fun i hi => h3 i (by rw [HNL.out]; exact hi)⟩
      have fo := hcello j hjn
      clear hcello
      by_cases hxe : zs.getD j 0 = (X : Int)
      case neg =>
        have J3 : Hid (∀ i, i < j + 1 → zs.getD i 0 ≠ (X : Int)) := hide fun i hi => by
          by_cases e : i = j
          · rw [e]; exact hxe
          · exact J2n.out i (by omega)
        have hne : ((zs.getD j 0) == (X : Int)) = false := by rw [beq_eq_false_iff_ne]; exact hxe
        have hne2 : (!((zs.getD j 0) == (X : Int))) = true := by rw [hne]; rfl
        generalize zs.getD j 0 = Y at fo hne hne2
        clear hxe
        go_wp2_with fail
        go_quiet (fail)
        go_wp2_with fail
        go_roundw
        case rel => exact ⟨j + 1, _, by go_num, by first | rfl | rw [World.drewN_drewN], hide ⟨by omega, J3.out⟩⟩
        case measure => simp [intOf]; omega
      have hne : ((zs.getD j 0) == (X : Int)) = true := by rw [beq_iff_eq]; exact hxe
      have hjq : ((j : Int) == (n : Int)) = false := by rw [beq_eq_false_iff_ne]; omega
      by_cases hbig : 65535 < j
      · have hbig' : (65535 : Int) < (j : Int) := by omega
        have hbd : decide ((65535 : Int) < (j : Int)) = true := by simpa using hbig'
        have E := hide (show RR = none by rw [← K4.out, HS.out, fidx_not (k := j) (Or.inr hbig) J2n.out])
        generalize zs.getD j 0 = Y at fo hne
        clear hxe hbig
        go_wp2_with fail
        go_quiet (fail)
        go_wp2_with fail
        go_ret2
        first | rw [HRX.out, E.out] | rw [HLL.out, HRX.out, E.out]
        exact ⟨rfl, below_same (below_t5 H1.out K5.out) rfl rfl rfl rfl⟩
      have hbig' : ¬ (65535 : Int) < (j : Int) := by omega
      have hbd : decide ((65535 : Int) < (j : Int)) = false := by simpa using hbig'
      have E := hide (show rnV l zs (ps.drop (k + 1)) (put1 m P (j : Int)) = RR by rw [← K4.out, HS.out, fidx_of (by rw [HNL.out]; exact hjn) (by omega) hxe J2n.out])
      have hPm : P + 2 ≤ m.length := by rw [K3.out]; exact hP
      have CT := hide (fun w => rtwo_any (j : Int) w (by omega) (by omega))
      have hex0 : (t.extract 0 P).size ≤ 1000000 := by rw [ByteArray.size_extract]; have := HTS.out; omega
      have hex1 : (t.extract (P + 2) t.size).size ≤ 1000000 := by rw [ByteArray.size_extract]; have := HTS.out; omega
      have htw : (⟨#[hiB (j : Int), loB (j : Int)]⟩ : ByteArray).size = 2 := rfl
      obtain ⟨P1, r1, d1, z1⟩ := cat9 (t.extract 0 P) ⟨#[hiB (j : Int), loB (j : Int)]⟩ (by omega)
      obtain ⟨P2, r2, d2, _⟩ := cat9 P1 (t.extract (P + 2) t.size) (by omega)
      have HP2 := hide (put_cat K2.out hPm d1 d2)
      generalize (⟨#[hiB (j : Int), loB (j : Int)]⟩ : ByteArray) = TW at CT r1
      generalize zs.getD j 0 = Y at fo hne
      clear hxe hbig d1 d2 z1 hex0 hex1 htw hPm
      go_wp2_with fail
      go_quiet (fail)
      go_wp2_with fail
      have KS : Hid (∀ x, Below wr.heap.size wr x → x.cell? ⟨sb, 2, none⟩ = some (.slice (some ⟨b2, o2, none⟩) ps.length c2) ∧ x.cell? ⟨b2, o2 + k, none⟩ = some (.int .i64 (P : Int))) := hide fun x hx => ⟨by rw [hx.cell (p := ⟨sb, 2, none⟩) hsb]; exact e2, by rw [hx.cell (p := ⟨b2, o2 + k, none⟩) hb2]; exact f2⟩
      have HX := hide (Below.refl wr.heap.size wr)
      clear fo hne f1 e0 e1 e2 f2
      go_region_held3 (fun x => x.cell? ⟨sb, 2, none⟩ = some (.slice (some ⟨b2, o2, none⟩) ps.length c2) ∧ x.cell? ⟨b2, o2 + k, none⟩ = some (.int .i64 (P : Int))) (exact KS.out _ (below_d HX.out (Below.refl _ _) rfl rfl rfl rfl)) ((go_at_call 44; refine (CT.out _).mono ?_; rintro e wy ⟨rfl, hy⟩; replace HX := hide (below_d HX.out hy rfl rfl rfl rfl); clear hy))
      go_wp2_with fail
      go_roundw
      case rel => exact ⟨k + 1, P2, put1 m P (j : Int), rfl, by go_num, hide ⟨by omega, HP2.out, by rw [put1_len]; exact K3.out, E.out, below_t5 K5.out HX.out⟩⟩
      case measure => simp [intOf]; omega
end Go.Proofs.YthnpnkiomknkeaaDoor.G10
