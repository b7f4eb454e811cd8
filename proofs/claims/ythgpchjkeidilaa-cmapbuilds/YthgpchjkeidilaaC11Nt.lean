/-
  What cmap's narrowTable answers (made by c11nt.py).
-/
import Derived.Test.YthgpchjkeidilaaC11N2
import Derived.Deep.RegionLaw
namespace Go.Proofs.Ythgpchjkeidilaa
open Go.RowKit Go.Deep
set_option linter.unusedVariables false
set_option linter.unusedSimpArgs false

theorem step_append_en {P : Program} (w : World) {ops : Array Oper} {o : Oper} {a : Act} {K : Act → World → Prop} {Q : Exit → Act → World → Prop} {E : Prop} (hgd : o.guard = none) (s x : Operand) (t tn : TypeId)
    (ho : o.op = .call { callee := .builtin .append, args := #[s, x], argTypes := #[t, tn] }) (vs vx : Value) (hs : a.eval s = vs) (hx : a.eval x = vx)
    {G : Value → World → Prop} (hr : ∃ v' w', (Builtin.append_ #[t, tn] o.type #[vs, vx]).run P w = .ok v' w' ∧ G v' w') (h : ∀ v' w', G v' w' → K (a.put o.dst v') w') :
    if Region.wanted o (yielded ops a.tmps) = true then Oper.wp P o a w K Q else E := by
  rw [if_pos (by simp [Region.wanted, hgd])]
  obtain ⟨v', w', hr, hG⟩ := hr
  exact Lib.wp_append_run w s x t tn ho vs vx hs hx v' w' hr (h v' w' hG)
theorem small_of {l : List Int} (h : ∀ x ∈ l, -4611686018427387904 ≤ x ∧ x ≤ 4611686018427387904) (i : Nat) (hi : i < l.length) : -4611686018427387904 ≤ l.getD i 0 ∧ l.getD i 0 ≤ 4611686018427387904 := by
  rw [List.getD_eq_getElem?_getD, List.getElem?_eq_getElem hi]; exact h _ (List.getElem_mem hi)
def NaR (w : World) (cs : List Ch) (e : Ending) (w' : World) : Prop := ∃ v' B, e = .returned v' ∧ BRow w' B v' (naT cs) ∧ Below w.heap.size w w'
set_option maxRecDepth 8000 in
set_option maxHeartbeats 8000000 in
theorem narrow_any (a : Option Addr) (cs : List Ch) (len cap : Nat) (w : World) (hl : cs.length = len) (hm : len ≤ 5000) (hr : ∀ i, i < cs.length → (0 ≤ (cs.getD i c0).f ∧ (cs.getD i c0).f ≤ (cs.getD i c0).l ∧ (cs.getD i c0).l ≤ 1114111 ∧ 1 ≤ (cs.getD i c0).g ∧ (cs.getD i c0).g < 4096)) (hL : CLst w a cs) :
    Calls Try.prog 12 #[.slice a len cap] w (NaR w cs) := by
  have hm' : (len : Int) ≤ 5000 := by omega
  have hm0 : (0 : Int) ≤ (len : Int) := by omega
  have HL := hide hL
  have HN := hide hl
  have HR := hide hr
  have HM := hide hm
  clear hL hl hr hm
  go_enter Try.func12, Try.ntmps12
  go_wp2_with fail
  go_loopw [3, 4, 5, 14] (fun v3 v4 v5 vi wr => ∃ (k : Nat), vi = .int .i64 k ∧ Hid (k ≤ len ∧ R3 w wr v3 v4 v5 (zl (cs.take k)) (zf (cs.take k)) (zd (cs.take k)))) (fun _ _ _ vi _ => len - (intOf vi).toNat)
  case atStart => exact ⟨0, rfl, hide ⟨by omega, ⟨IRow.nil _ _, IRow.nil _ _, IRow.nil _ _, fun k h => (by simp [Value.ownBlock] at h), fun k h => (by simp [Value.ownBlock] at h), fun k h => (by simp [Value.ownBlock] at h), Below.refl _ _⟩⟩⟩
  case round =>
    obtain ⟨k, rfl, HV⟩ := hrel
    obtain ⟨hk, hr3⟩ := HV.out
    have hk0 : (0 : Int) ≤ (k : Int) := by omega
    have HR3 := hide hr3
    clear HV
    by_cases hlt : k < len
    case neg =>
      have hlt' : ¬ (k : Int) < (len : Int) := by omega
      obtain rfl : k = len := by omega
      have hz : cs.take k = cs := List.take_of_length_le (by have := HN.out; omega)
      rw [hz] at hr3
      have e3 : (zl cs).length = k := by unfold zl; rw [List.length_map]; exact HN.out
      have e4 : (zf cs).length = k := by unfold zf; rw [List.length_map]; exact HN.out
      have e5 : (zd cs).length = k := by unfold zd; rw [List.length_map]; exact HN.out
      obtain ⟨y3, q1, r1, hq1⟩ := hr3.app3 65535 (by omega)
      obtain ⟨y4, q2, r2, hq2⟩ := hq1.app4 65535 (by omega)
      obtain ⟨y5, q3, r3, hq3⟩ := hq2.app5 1 (by omega)
      obtain ⟨A3, c3, hy3, il3⟩ := hq3.i3.il
      obtain ⟨A4, c4, hy4, il4⟩ := hq3.i4.il
      obtain ⟨A5, c5, hy5, il5⟩ := hq3.i5.il
      have g3 : (zl cs ++ [65535]).length = k + 1 := by rw [List.length_append, e3]; rfl
      have g4 : (zf cs ++ [65535]).length = k + 1 := by rw [List.length_append, e4]; rfl
      have g5 : (zd cs ++ [1]).length = k + 1 := by rw [List.length_append, e5]; rfl
      rw [g3] at hy3
      rw [g4] at hy4
      rw [g5] at hy5
      subst hy3 hy4 hy5
      have HLO := hide hq3.low
      have b3 : ∀ i, i < (zl cs ++ [65535]).length → -4611686018427387904 ≤ (zl cs ++ [65535]).getD i 0 ∧ (zl cs ++ [65535]).getD i 0 ≤ 4611686018427387904 := fun i hi => small_of (fun x hx => by
        rcases List.mem_append.1 hx with hx | hx
        · obtain ⟨y, hy, rfl⟩ := List.mem_map.1 hx
          obtain ⟨j, hj, rfl⟩ := List.getElem_of_mem hy
          have := HR.out j hj
          rw [List.getD_eq_getElem?_getD, List.getElem?_eq_getElem hj] at this
          simp only [Option.getD_some] at this
          omega
        · simp at hx; omega) i hi
      have b4 : ∀ i, i < (zf cs ++ [65535]).length → -4611686018427387904 ≤ (zf cs ++ [65535]).getD i 0 ∧ (zf cs ++ [65535]).getD i 0 ≤ 4611686018427387904 := fun i hi => small_of (fun x hx => by
        rcases List.mem_append.1 hx with hx | hx
        · obtain ⟨y, hy, rfl⟩ := List.mem_map.1 hx
          obtain ⟨j, hj, rfl⟩ := List.getElem_of_mem hy
          have := HR.out j hj
          rw [List.getD_eq_getElem?_getD, List.getElem?_eq_getElem hj] at this
          simp only [Option.getD_some] at this
          omega
        · simp at hx; omega) i hi
      have b5 : ∀ i, i < (zd cs ++ [1]).length → -4611686018427387904 ≤ (zd cs ++ [1]).getD i 0 ∧ (zd cs ++ [1]).getD i 0 ≤ 4611686018427387904 := fun i hi => small_of (fun x hx => by
        rcases List.mem_append.1 hx with hx | hx
        · obtain ⟨y, hy, rfl⟩ := List.mem_map.1 hx
          obtain ⟨j, hj, rfl⟩ := List.getElem_of_mem hy
          have := HR.out j hj
          rw [List.getD_eq_getElem?_getD, List.getElem?_eq_getElem hj] at this
          simp only [Option.getD_some] at this
          omega
        · simp at hx; omega) i hi
      have b0 : ∀ i, i < (List.replicate (k + 1) (0 : Int)).length → -4611686018427387904 ≤ (List.replicate (k + 1) (0 : Int)).getD i 0 ∧ (List.replicate (k + 1) (0 : Int)).getD i 0 ≤ 4611686018427387904 := fun i hi => small_of (fun x hx => by
        have := List.eq_of_mem_replicate hx; omega) i hi
      obtain ⟨hb, he12, hp1, hp2, hp3⟩ := exp_bd (k + 1) (by omega) (by omega)
      have CL := len_any (k + 1) q3 (by omega)
      rw [hb] at CL
      have HNA : Hid (naT cs = opT 1 ++ [0, 4] ++ tw [16 + 8 * ((k : Int) + 1), 0, 2 * ((k : Int) + 1), 2 * (powV (k + 1) : Int), (expV (k + 1) : Int), 2 * ((k : Int) + 1) - 2 * (powV (k + 1) : Int)] ++ tw (zl cs ++ [65535]) ++ tw [0] ++ tw (zf cs ++ [65535]) ++ tw (zd cs ++ [1]) ++ tw (List.replicate (k + 1) 0)) := hide (by unfold naT; rw [HN.out])
      obtain ⟨q, hq⟩ : ∃ q, expV (k + 1) = q := ⟨_, rfl⟩
      have hpq : powV (k + 1) = 2 ^ q := by unfold powV; rw [hq]
      rw [hq] at CL he12 HNA
      obtain ⟨p, hp⟩ : ∃ p, powV (k + 1) = p := ⟨_, rfl⟩
      rw [hp] at hp1 hp2 hp3 hpq HNA
      have hsh : wrap64 ((2 : Int) ^ q) = (p : Int) := by
        have e : (2 : Int) ^ q = (p : Int) := by rw [hpq]; simp
        rw [e]
        simp [wrap64]
        omega
      have HSH := hide hsh
      clear hsh hpq
      have kc : ((k + 1 : Nat) : Int) = (k : Int) + 1 := by omega
      rw [show ((q + 1 : Nat) : Int) = (q : Int) + 1 by omega, kc] at CL
      have CL := hide CL
      have hq0 : (0 : Int) ≤ (q : Int) := by omega
      have hq12 : (q : Int) ≤ 12 := by omega
      have hp1' : (1 : Int) ≤ (p : Int) := by omega
      have hp2' : (p : Int) ≤ (k : Int) + 1 := by omega
      have hw : IntKind.u64.wrap ((k : Int) + 1) = (k : Int) + 1 := by simp [IntKind.wrap, IntKind.bits, IntKind.signed]; omega
      have CO := hide (opening_any 1 q3 (by omega) (by omega))
      have CTW := hide (fun v ys a zs n c W hn hz hl hB h hL hr => atwo_any q3.heap.size v ys a zs n c W hn hz hl hB h hL hr)
      have R1 := hide r1
      have R2 := hide r2
      have R3' := hide r3
      have I3 := hide il3
      have I4 := hide il4
      have I5 := hide il5
      have B3 := hide b3
      have B4 := hide b4
      have B5 := hide b5
      have B0 := hide b0
      have G3 := hide g3
      have G4 := hide g4
      have G5 := hide g5
      have HMK := make_ints (k + 1) (by omega)
      rw [kc] at HMK
      have E345 := hide (And.intro e3 (And.intro e4 e5))
      clear r1 r2 r3 il3 il4 il5 b3 b4 b5 b0 g3 g4 g5 e3 e4 e5 hq1 hq2 hq3 hr3 hz hb hq hp hlt HR3 hp1 hp2 hp3 he12
      go_wp2_with (at_builtin; first | (refine Lib.wpList_append_run _ rfl _ _ _ _ rfl _ _ rfl rfl _ _ R1.out ?_; clear R1) | (refine Lib.wpList_append_run _ rfl _ _ _ _ rfl _ _ rfl rfl _ _ R2.out ?_; clear R2) | (refine Lib.wpList_append_run _ rfl _ _ _ _ rfl _ _ rfl rfl _ _ R3'.out ?_; clear R3'))
      refine CL.out.mono ?_
      rintro e w1 ⟨rfl, hw1⟩
      replace hw1 := hw1.symm
      subst hw1
      go_wp2_with fail
      rw [HSH.out]
      refine CO.out.mono ?_
      rintro e w1 ⟨vt, rfl, hbt, hkt⟩
      obtain ⟨v2, w2, r4, hb2, hk2⟩ := app_s3 ⟨#[0, 4]⟩ hbt hkt.size (by simp [opT, tw_len, fo_len, ByteArray.size])
      have R4 := hide r4
      have K2 := hide (hkt.trans hk2)
      have T2 := hide (show BRow w2 q3.heap.size v2 (opT 1 ++ [0, 4]) from hb2)
      clear hbt hkt r4 hb2 hk2
      have C6 := hide (CTW.out v2 (opT 1 ++ [0, 4]) (some ⟨w2.heap.size, 0, none⟩) [16 + 8 * ((k : Int) + 1), 0, 2 * ((k : Int) + 1), 2 * (p : Int), (q : Int), 2 * ((k : Int) + 1) - 2 * (p : Int)] 6 6 (w2.alloc (.cells #[.int .i64 (16 + 8 * ((k : Int) + 1)), .int .i64 (0), .int .i64 (2 * ((k : Int) + 1)), .int .i64 (2 * (p : Int)), .int .i64 ((q : Int)), .int .i64 (2 * ((k : Int) + 1) - 2 * (p : Int))] 3)) rfl (by omega) (by simp [opT, tw_len, fo_len]) (Nat.le_trans K2.out.size (by simp)) (World.ownsRow.alloc T2.out _) (IL.blk (Blk.new _ _ _)) (small_of (by
        intro x hx
        simp at hx
        rcases hx with rfl | rfl | rfl | rfl | rfl | rfl <;> omega)))
      have K2a := hide (K2.out.trans ⟨(Below.refl _ _).alloc K2.out.size (.cells #[.int .i64 (16 + 8 * ((k : Int) + 1)), .int .i64 (0), .int .i64 (2 * ((k : Int) + 1)), .int .i64 (2 * (p : Int)), .int .i64 ((q : Int)), .int .i64 (2 * ((k : Int) + 1) - 2 * (p : Int))] 3), NB.below ((Below.refl _ _).alloc (Nat.le_refl _) _)⟩)
      go_wp2_with (at_builtin; refine Lib.wpList_append_run _ rfl _ _ _ _ rfl _ _ rfl rfl _ _ R4.out ?_)
      refine C6.out.mono ?_
      rintro e w3 ⟨v3', rfl, hb3, hk3⟩
      have T3 := hide hb3
      have K3 := hide (K2a.out.trans hk3)
      clear hb3 hk3
      obtain ⟨TX3, hTX3⟩ : ∃ TX, opT 1 ++ [0, 4] ++ tw [16 + 8 * ((k : Int) + 1), 0, 2 * ((k : Int) + 1), 2 * (p : Int), (q : Int), 2 * ((k : Int) + 1) - 2 * (p : Int)] = TX := ⟨_, rfl⟩
      rw [hTX3] at T3 HNA
      have hT3 : TX3.length ≤ 100 := by rw [← hTX3]; simp [opT, tw_len, fo_len]
      clear hTX3
      have C7 := hide (CTW.out v3' TX3 A3 (zl cs ++ [65535]) (k + 1) c3 w3 G3.out (by omega) (by omega) K3.out.size T3.out (I3.out.nb K3.out.nb) B3.out)
      go_wp2_with fail
      refine C7.out.mono ?_
      rintro e w4 ⟨v4', rfl, hb4, hk4⟩
      have T4 := hide hb4
      have K4 := hide (K3.out.trans hk4)
      clear hb4 hk4
      obtain ⟨TX4, hTX4⟩ : ∃ TX, TX3 ++ tw (zl cs ++ [65535]) = TX := ⟨_, rfl⟩
      rw [hTX4] at T4 HNA
      have hT4 : TX4.length ≤ 20000 := by rw [← hTX4, List.length_append, tw_len, G3.out]; omega
      clear hTX4
      have C8 := hide (CTW.out v4' TX4 (some ⟨w4.heap.size, 0, none⟩) [0] 1 1 (w4.alloc (.cells #[.int .i64 0] 3)) rfl (by omega) (by omega) (Nat.le_trans K4.out.size (by simp)) (World.ownsRow.alloc T4.out _) (IL.blk (Blk.new _ _ _)) (small_of (by
        intro x hx
        simp at hx
        omega)))
      have K4a := hide (K4.out.trans ⟨(Below.refl _ _).alloc K4.out.size (.cells #[.int .i64 0] 3), NB.below ((Below.refl _ _).alloc (Nat.le_refl _) _)⟩)
      go_wp2_with fail
      refine C8.out.mono ?_
      rintro e w5 ⟨v5', rfl, hb5, hk5⟩
      have T5 := hide hb5
      have K5 := hide (K4a.out.trans hk5)
      clear hb5 hk5
      obtain ⟨TX5, hTX5⟩ : ∃ TX, TX4 ++ tw [0] = TX := ⟨_, rfl⟩
      rw [hTX5] at T5 HNA
      have hT5 : TX5.length ≤ 20002 := by rw [← hTX5, List.length_append, tw_len]; simp; omega
      clear hTX5
      have C9 := hide (CTW.out v5' TX5 A4 (zf cs ++ [65535]) (k + 1) c4 w5 G4.out (by omega) (by omega) K5.out.size T5.out (I4.out.nb K5.out.nb) B4.out)
      go_wp2_with fail
      refine C9.out.mono ?_
      rintro e w6 ⟨v6', rfl, hb6, hk6⟩
      have T6 := hide hb6
      have K6 := hide (K5.out.trans hk6)
      clear hb6 hk6
      obtain ⟨TX6, hTX6⟩ : ∃ TX, TX5 ++ tw (zf cs ++ [65535]) = TX := ⟨_, rfl⟩
      rw [hTX6] at T6 HNA
      have hT6 : TX6.length ≤ 40000 := by rw [← hTX6, List.length_append, tw_len, G4.out]; omega
      clear hTX6
      have C10 := hide (CTW.out v6' TX6 A5 (zd cs ++ [1]) (k + 1) c5 w6 G5.out (by omega) (by omega) K6.out.size T6.out (I5.out.nb K6.out.nb) B5.out)
      go_wp2_with fail
      refine C10.out.mono ?_
      rintro e w7 ⟨v7', rfl, hb7, hk7⟩
      have T7 := hide hb7
      have K7 := hide (K6.out.trans hk7)
      clear hb7 hk7
      obtain ⟨TX7, hTX7⟩ : ∃ TX, TX6 ++ tw (zd cs ++ [1]) = TX := ⟨_, rfl⟩
      rw [hTX7] at T7 HNA
      have hT7 : TX7.length ≤ 60000 := by rw [← hTX7, List.length_append, tw_len, G5.out]; omega
      clear hTX7
      have C11 := hide (CTW.out v7' TX7 (some ⟨w7.heap.size, 0, none⟩) (List.replicate (k + 1) 0) (k + 1) (k + 1) (w7.alloc (.cells (((List.replicate (k + 1) (0 : Int)).map (Value.int .i64)).toArray) 3)) (by simp) (by omega) (by omega) (Nat.le_trans K7.out.size (by simp)) (World.ownsRow.alloc T7.out _) (IL.blk (Blk.new _ _ _)) B0.out)
      have K7a := hide (K7.out.trans ⟨(Below.refl _ _).alloc K7.out.size (.cells (((List.replicate (k + 1) (0 : Int)).map (Value.int .i64)).toArray) 3), NB.below ((Below.refl _ _).alloc (Nat.le_refl _) _)⟩)
      generalize (((List.replicate (k + 1) (0 : Int)).map (Value.int .i64)).toArray) = ZA at *
      go_wp2_with fail
      refine C11.out.mono ?_
      rintro e w8 ⟨v8', rfl, hb8, hk8⟩
      have T8 := hide hb8
      have K8 := hide (K7a.out.trans hk8)
      clear hb8 hk8
      go_wp2_with fail
      go_ret
      exact ⟨_, _, rfl, by rw [HNA.out]; exact T8.out, HLO.out.trans (K8.out.below.mono HLO.out.size)⟩
    have hlt' : (k : Int) < (len : Int) := by omega
    rcases HL.out with hz | ⟨b, o, rfl, hbl, hcell⟩
    · have := HN.out; rw [hz] at this; simp at this; omega
    obtain ⟨z0, z1, z2⟩ := hcell k (by have := HN.out; omega)
    rw [← hr3.low.cell (p := ⟨b, _, none⟩) hbl] at z0 z1 z2
    have zb : b < wr.heap.size := Nat.lt_of_lt_of_le hbl hr3.low.size
    have HT := hide (zs_take cs k (by have := HN.out; omega))
    obtain ⟨x0, x1, x2, x3, x4⟩ := HR.out k (by have := HN.out; omega)
    have HLN : Hid ((zl (cs.take k)).length ≤ 5000 ∧ (zf (cs.take k)).length ≤ 5000 ∧ (zd (cs.take k)).length ≤ 5000) := hide (by
      have := HM.out
      unfold zl zf zd
      simp only [List.length_map, List.length_take]
      omega)
    obtain ⟨x, hx⟩ : ∃ x, cs.getD k c0 = x := ⟨_, rfl⟩
    rw [hx] at z0 z1 z2 HT x0 x1 x2 x3 x4
    obtain ⟨f, l, g⟩ := x
    simp only at z0 z1 z2 x0 x1 x2 x3 x4 HT
    obtain ⟨d, hd⟩ : ∃ d, g - f = d := ⟨_, rfl⟩
    rw [hd] at HT
    have wd : IntKind.i64.wrap (g - f) = d := by rw [IntKind.wrap_i64]; omega
    have wd2 : IntKind.i64.wrap d = d := by rw [IntKind.wrap_i64]; omega
    generalize zl (cs.take k) = Z3 at *
    generalize zf (cs.take k) = Z4 at *
    generalize zd (cs.take k) = Z5 at *
    obtain ⟨bx, hbx⟩ : ∃ bx, wr.heap.size = bx := ⟨_, rfl⟩
    have hq0 := hr3.box #[.int .i64 f, .int .i64 l, .int .i64 g]
    have HBX := hide hbx
    have KB : Hid (∀ {u : World} {v3 v4 v5 : Value} {y3 y4 y5 : List Int} {src : List (Nat × Int)}, Q3 w wr.heap.size #[.int .i64 f, .int .i64 l, .int .i64 g] u v3 v4 v5 y3 y4 y5 src → (wr.heap.size < u.heap.size ∧ u.cell? ⟨wr.heap.size, 0, none⟩ = some (.int .i64 f) ∧ u.cell? ⟨wr.heap.size, 1, none⟩ = some (.int .i64 l) ∧ u.cell? ⟨wr.heap.size, 2, none⟩ = some (.int .i64 g))) := hide (fun h => ⟨h.box.lt, h.box.cell 0, h.box.cell 1, h.box.cell 2⟩)
    have HQ := hide hq0.drew
    clear hcell hx hq0 hbx hr3
    go_wp2_with fail
    go_region_held3 (fun u => wr.heap.size < u.heap.size ∧ u.cell? ⟨wr.heap.size, 0, none⟩ = some (.int .i64 f) ∧ u.cell? ⟨wr.heap.size, 1, none⟩ = some (.int .i64 l) ∧ u.cell? ⟨wr.heap.size, 2, none⟩ = some (.int .i64 g)) (first | exact KB.out HQ.out | exact KB.out (HQ.out.alloc _) | exact KB.out ((HQ.out.alloc _).alloc _) | exact KB.out (((HQ.out.alloc _).alloc _).alloc _)) ((first | (refine step_append_en _ (by rfl) _ _ _ _ (by rfl) _ _ (by rfl) (by rfl) (HQ.out.app3 (x := l) (by simp) (by have := HLN.out; omega)) ?_; rintro v3 u3 hq; replace HQ := hide hq; clear hq) | (refine step_append_en _ (by rfl) _ _ _ _ (by rfl) _ _ (by rfl) (by rfl) (((HQ.out.alloc _)).app3 (x := l) (by simp) (by have := HLN.out; omega)) ?_; rintro v3 u3 hq; replace HQ := hide hq; clear hq) | (refine step_append_en _ (by rfl) _ _ _ _ (by rfl) _ _ (by rfl) (by rfl) ((((HQ.out.alloc _).alloc _)).app3 (x := l) (by simp) (by have := HLN.out; omega)) ?_; rintro v3 u3 hq; replace HQ := hide hq; clear hq) | (refine step_append_en _ (by rfl) _ _ _ _ (by rfl) _ _ (by rfl) (by rfl) (((((HQ.out.alloc _).alloc _).alloc _)).app3 (x := l) (by simp) (by have := HLN.out; omega)) ?_; rintro v3 u3 hq; replace HQ := hide hq; clear hq) | (refine step_append_en _ (by rfl) _ _ _ _ (by rfl) _ _ (by rfl) (by rfl) (HQ.out.app4 (x := f) (by simp) (by have := HLN.out; omega)) ?_; rintro v4 u4 hq; replace HQ := hide hq; clear hq) | (refine step_append_en _ (by rfl) _ _ _ _ (by rfl) _ _ (by rfl) (by rfl) (((HQ.out.alloc _)).app4 (x := f) (by simp) (by have := HLN.out; omega)) ?_; rintro v4 u4 hq; replace HQ := hide hq; clear hq) | (refine step_append_en _ (by rfl) _ _ _ _ (by rfl) _ _ (by rfl) (by rfl) ((((HQ.out.alloc _).alloc _)).app4 (x := f) (by simp) (by have := HLN.out; omega)) ?_; rintro v4 u4 hq; replace HQ := hide hq; clear hq) | (refine step_append_en _ (by rfl) _ _ _ _ (by rfl) _ _ (by rfl) (by rfl) (((((HQ.out.alloc _).alloc _).alloc _)).app4 (x := f) (by simp) (by have := HLN.out; omega)) ?_; rintro v4 u4 hq; replace HQ := hide hq; clear hq) | (refine step_append_en _ (by rfl) _ _ _ _ (by rfl) _ _ (by rfl) (by rfl) (HQ.out.app5 (x := d) (by simp) (by have := HLN.out; omega)) ?_; rintro v5 u5 hq; replace HQ := hide hq; clear hq) | (refine step_append_en _ (by rfl) _ _ _ _ (by rfl) _ _ (by rfl) (by rfl) (((HQ.out.alloc _)).app5 (x := d) (by simp) (by have := HLN.out; omega)) ?_; rintro v5 u5 hq; replace HQ := hide hq; clear hq) | (refine step_append_en _ (by rfl) _ _ _ _ (by rfl) _ _ (by rfl) (by rfl) ((((HQ.out.alloc _).alloc _)).app5 (x := d) (by simp) (by have := HLN.out; omega)) ?_; rintro v5 u5 hq; replace HQ := hide hq; clear hq) | (refine step_append_en _ (by rfl) _ _ _ _ (by rfl) _ _ (by rfl) (by rfl) (((((HQ.out.alloc _).alloc _).alloc _)).app5 (x := d) (by simp) (by have := HLN.out; omega)) ?_; rintro v5 u5 hq; replace HQ := hide hq; clear hq)))
    all_goals go_wp2_with fail
    all_goals refine ⟨⟨k + 1, by go_num, hide ⟨by omega, ?_⟩⟩, by simp [intOf]; omega⟩
    all_goals rw [HT.out.1, HT.out.2.1, HT.out.2.2]
    all_goals exact HQ.out.rows
end Go.Proofs.Ythgpchjkeidilaa
