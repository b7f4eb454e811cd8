/-
  What the reference's Build answers, not wide.
-/
import Derived.Test.YthgpchjkeidilaaC11Rp
import Derived.Test.YthgpchjkeidilaaC11Rg
namespace Go.Proofs.Ythgpchjkeidilaa
open Go.RowKit Go.Deep
set_option linter.unusedVariables false
set_option linter.unusedSimpArgs false

theorem last_le {cs : List Ch} (h : gooB cs 4096 = true) : ∀ d i, i + d < cs.length → (cs.getD i c0).l ≤ (cs.getD (i + d) c0).l := by
  intro d
  induction d with
  | zero => intro i _; exact Int.le_refl _
  | succ d ih =>
    intro i hi
    have h1 := ih i (by omega)
    have h2 := (gooB_iff.1 h).2 (i + (d + 1)) hi
    unfold okB nxB at h2
    rw [Bool.and_eq_true, Bool.or_eq_true] at h2
    obtain ⟨a, b⟩ := h2
    have hf := fitB_t.1 a
    rcases b with b | b
    · simp at b
    · simp only [Bool.not_eq_true', Bool.or_eq_false_iff, decide_eq_false_iff_not] at b
      rw [show i + (d + 1) - 1 = i + d by omega] at b
      omega
theorem nar_no {cs : List Ch} (h : gooB cs 4096 = true) {k : Nat} (hk : k < cs.length) (hl : 65534 < (cs.getD k c0).l) : narB cs = false := by
  have := last_le h (cs.length - 1 - k) k (by omega)
  rw [show k + (cs.length - 1 - k) = cs.length - 1 by omega] at this
  unfold narB
  rw [show decide (cs.length = 0) = false by rw [decide_eq_false_iff_not]; omega, show decide ((cs.getD (cs.length - 1) c0).l < 65535) = false by rw [decide_eq_false_iff_not]; omega]
  simp
theorem nar_yes {cs : List Ch} (h1 : cs.length ≤ 4095) (h2 : ∀ i, i < cs.length → (cs.getD i c0).l ≤ 65534) : narB cs = true := by
  unfold narB
  rw [Bool.and_eq_true, decide_eq_true_eq, Bool.or_eq_true, decide_eq_true_eq, decide_eq_true_eq]
  refine ⟨h1, ?_⟩
  rcases Nat.eq_zero_or_pos cs.length with h | h
  · exact Or.inl h
  · right; have := h2 (cs.length - 1) (by omega); omega
theorem tw_app (a b : List Int) : tw (a ++ b) = tw a ++ tw b := by unfold tw; simp
theorem t2_zero : t2 0 = [0, 0] := by decide
def NbR (w : World) (cs : List Ch) (e : Ending) (w' : World) : Prop :=
  if narB cs = true then e = .returned (.tuple #[.string ⟨(naT cs).toArray⟩, .int .i64 0]) ∧ Below w.heap.size w w'
  else e = .returned (.tuple #[.string ⟨#[]⟩, .int .i64 110]) ∧ Below w.heap.size w w'
set_option maxRecDepth 8000 in
set_option maxHeartbeats 8000000 in
theorem rbuild_nar (a : Option Addr) (cs : List Ch) (len cap : Nat) (w : World) (hl : cs.length = len) (hL : CLst w a cs) (hg : gooB cs 4096 = true) :
    Calls Try.prog 6 #[.slice a len cap, .bool false] w (NbR w cs) := by
  have hsm := good_small hg (by omega)
  have hm := hsm.1
  have C := hide (rgood_any a cs len cap 4096 w hl (by omega) ⟨by omega, by omega⟩ hL)
  rw [hg] at C
  by_cases h95 : 4095 < len
  · have h95' : (4095 : Int) < (len : Int) := by omega
    have HF : Hid (narB cs = false) := hide (by unfold narB; rw [show decide (cs.length ≤ 4095) = false by rw [decide_eq_false_iff_not]; omega]; rfl)
    clear hsm hm hl hL hg h95
    go_enter Try.func6, Try.ntmps6
    go_wp2_with fail
    refine C.out.mono ?_
    rintro e w1 ⟨rfl, h1⟩
    have H1 := hide h1
    clear h1
    go_wp2_with fail
    go_ret2
    unfold NbR
    rw [HF.out]
    exact ⟨rfl, H1.out⟩
  have h95' : ¬ (4095 : Int) < (len : Int) := by omega
  obtain ⟨TV, hTV⟩ : ∃ TV : Int → ByteArray, ∀ x, TV x = ⟨(t2 x).toArray⟩ := ⟨_, fun _ => rfl⟩
  have CT : Hid (∀ (x : Int) (w : World), -2147483647 ≤ x → x ≤ 2147483647 → Calls Try.prog 15 #[.int .i64 x] w fun e w' => e = .returned (.string (TV x)) ∧ Below w.heap.size w w') := hide (fun x w h0 h1 => by rw [hTV x]; exact rt_any x w (by omega) (by omega))
  have hs2 : ∀ x, (TV x).size = 2 := fun x => by rw [hTV x]; rfl
  have htl : ∀ x, (TV x).data.toList = t2 x := fun x => by rw [hTV x]
  have HTS := hide (And.intro htl hs2)
  have HSM := hide hsm
  have HL := hide hl
  have HLS := hide hL
  have HG := hide hg
  have hlen : (len : Int) ≤ 4095 := by omega
  have CS := hide (fun w => rsearch_any (len + 1) w (by omega) (by omega))
  have C12 := hide (fun w => rf_any 12 w (by omega) (by omega))
  have HCELL : Hid (∀ k, k < len → ∃ b off, a = some ⟨b, off, none⟩ ∧ b < w.heap.size ∧ (∀ x, Below w.heap.size w x → x.cell? ⟨b, off + k * 3, none⟩ = some (.int .i64 (cs.getD k c0).f) ∧ x.cell? ⟨b, off + k * 3 + 1, none⟩ = some (.int .i64 (cs.getD k c0).l) ∧ x.cell? ⟨b, off + k * 3 + 2, none⟩ = some (.int .i64 (cs.getD k c0).g))) := hide (fun k hk => by
    rcases hL with hz | ⟨b, off, h1, h2, h3⟩
    · rw [hz] at hl; simp at hl; omega
    · refine ⟨b, off, h1, h2, fun x hx => ?_⟩
      have := h3 k (by omega)
      rw [hx.cell (p := ⟨b, off + k * 3, none⟩) h2, hx.cell (p := ⟨b, off + k * 3 + 1, none⟩) h2, hx.cell (p := ⟨b, off + k * 3 + 2, none⟩) h2]
      exact this)
  clear hsm hm hl hL hg hTV hs2 htl
  go_enter Try.func6, Try.ntmps6
  go_wp2_with fail
  refine C.out.mono ?_
  rintro e w1 ⟨rfl, h1⟩
  have H1 := hide h1
  clear h1
  have HB0 : Hid (BN w w1 [(.slice none 0 0, []), (.slice none 0 0, []), (.slice none 0 0, []), (.slice none 0 0, [])]) := hide ⟨H1.out, fun p hp => by
    simp at hp
    subst hp
    exact BRow.nil _ _, by
    have h0 : ∀ v, Apart (.slice none 0 0) v := fun v k e => by simp [Value.ownBlock] at e
    simp [List.pairwise_cons, h0]⟩
  go_wp2_with fail
  go_loopw [8, 9, 10, 11, 12] (fun v8 v9 v10 v11 vi wr => ∃ k : Nat, vi = .int .i64 k ∧ Hid (k ≤ len ∧ (∀ i, i < k → (cs.getD i c0).l ≤ 65534) ∧ BN w wr [(v8, tw (zl (cs.take k))), (v9, tw (zf (cs.take k))), (v10, tw (zd (cs.take k))), (v11, tw (List.replicate k 0))])) (fun _ _ _ _ vi _ => len - (intOf vi).toNat)
  case atStart => exact ⟨0, rfl, hide ⟨by omega, fun i hi => by omega, HB0.out⟩⟩
  case round =>
    clear HB0
    obtain ⟨v8, hv8⟩ : ∃ v, v = u8 := ⟨_, rfl⟩
    subst hv8
    obtain ⟨v9, hv9⟩ : ∃ v, v = u9 := ⟨_, rfl⟩
    subst hv9
    obtain ⟨v10, hv10⟩ : ∃ v, v = u10 := ⟨_, rfl⟩
    subst hv10
    obtain ⟨v11, hv11⟩ : ∃ v, v = u11 := ⟨_, rfl⟩
    subst hv11
    obtain ⟨k, rfl, HV⟩ := hrel
    obtain ⟨hk, hall, hB⟩ := HV.out
    have hk0 : (0 : Int) ≤ (k : Int) := by omega
    have HALL := hide hall
    have HB := hide hB
    clear HV hall
    by_cases hlt : k < len
    · have hlt' : (k : Int) < (len : Int) := by omega
      obtain ⟨b, off, rfl, hbl, hcell⟩ := HCELL.out k hlt
      obtain ⟨z1, z2, z3, z4, z5⟩ := HSM.out.2 k (by have := HL.out; omega)
      obtain ⟨t1, t2', t3⟩ := zs_take cs k (by have := HL.out; omega)
      have hnn := fun h => nar_no HG.out (k := k) (by have := HL.out; omega) h
      obtain ⟨x, hx⟩ : ∃ x, cs.getD k c0 = x := ⟨_, rfl⟩
      rw [hx] at hcell z1 z2 z3 z4 z5 t1 t2' t3 hnn
      obtain ⟨f, la, gl⟩ := x
      simp only at hcell z1 z2 z3 z4 z5 t1 t2' t3 hnn
      have HCC := hide hcell
      obtain ⟨c1, c2, c3⟩ := hcell wr hB.1
      by_cases hla : 65534 < la
      · have HF := hide (hnn hla)
        clear hcell hnn t1 t2' t3 hx hB
        go_wp2_with fail
        go_ret2
        unfold NbR
        rw [HF.out]
        exact ⟨rfl, HB.out.1⟩
      · have hla' : la ≤ 65534 := by omega
        have HNX : Hid (∀ i, i < k + 1 → (cs.getD i c0).l ≤ 65534) := hide (fun i hi => by
          rcases Nat.lt_or_ge i k with h' | h'
          · exact HALL.out i h'
          · obtain rfl : i = k := by omega
            rw [hx]; exact hla')
        have HT1 := hide (And.intro t1 (And.intro t2' t3))
        have lens : ∀ zs : List Int, zs.length = k → (tw zs).length ≤ 8190 := fun zs h => by rw [tw_len, h]; omega
        have l1 : (tw (zl (cs.take k))).length ≤ 8190 := lens _ (by unfold zl; rw [List.length_map, List.length_take, HL.out]; omega)
        have l2 : (tw (zf (cs.take k))).length ≤ 8190 := lens _ (by unfold zf; rw [List.length_map, List.length_take, HL.out]; omega)
        have l3 : (tw (zd (cs.take k))).length ≤ 8190 := lens _ (by unfold zd; rw [List.length_map, List.length_take, HL.out]; omega)
        have l4 : (tw (List.replicate k (0 : Int))).length ≤ 8190 := lens _ (by simp)
        have HLN := hide (And.intro l1 (And.intro l2 (And.intro l3 l4)))
        clear hcell hnn t1 t2' t3 hx hB HALL lens l1 l2 l3 l4
        go_wp2_with fail
        refine (CT.out _ _ (by omega) (by omega)).mono ?_
        rintro e x1 ⟨rfl, hb1⟩
        have hB1 := HB.out.later hb1
        obtain ⟨v8', y1, hr1, hg1⟩ := app_s4 (TV la) hB1.hd hB1.1.size (by rw [HTS.out.2]; have := HLN.out; omega)
        have hN1 := (hB1.grew hg1).rot
        have HN1 := hide hN1
        have HR1 := hide hr1
        obtain ⟨d1, d2, d3⟩ := HCC.out y1 hN1.1
        clear hb1 hB1 hr1 hg1 hN1 c1 c2 c3
        go_wp2_with (at_builtin; refine Lib.wpList_append_run _ rfl _ _ _ _ rfl _ _ rfl rfl _ _ HR1.out ?_)
        refine (CT.out _ _ (by omega) (by omega)).mono ?_
        rintro e x2 ⟨rfl, hb2⟩
        have hB2 := HN1.out.later hb2
        obtain ⟨v9', y2, hr2, hg2⟩ := app_s4 (TV f) hB2.hd hB2.1.size (by rw [HTS.out.2]; have := HLN.out; omega)
        have hN2 := (hB2.grew hg2).rot
        have HN2 := hide hN2
        have HR2 := hide hr2
        have KS := hide (fun (u : World) (hu : Below y2.heap.size y2 u) => show u.cell? ⟨b, off + k * 3, none⟩ = some (.int .i64 f) ∧ u.cell? ⟨b, off + k * 3 + 1, none⟩ = some (.int .i64 la) ∧ u.cell? ⟨b, off + k * 3 + 2, none⟩ = some (.int .i64 gl) from HCC.out u (hN2.1.trans (hu.mono hN2.1.size)))
        have HAP : Hid (∀ u, Below y2.heap.size y2 u → ∃ v' w', (Builtin.append_ #[36, 9] 36 #[v10, .string (TV (gl - f))]).run Try.prog u = .ok v' w' ∧ (BN w w' [(v11, tw (List.replicate k 0)), (v8', tw (zl (cs.take k)) ++ (TV la).data.toList), (v9', tw (zf (cs.take k)) ++ (TV f).data.toList), (v', tw (zd (cs.take k)) ++ (TV (gl - f)).data.toList)] ∧ (w'.cell? ⟨b, off + k * 3, none⟩ = some (.int .i64 f) ∧ w'.cell? ⟨b, off + k * 3 + 1, none⟩ = some (.int .i64 la) ∧ w'.cell? ⟨b, off + k * 3 + 2, none⟩ = some (.int .i64 gl)))) := hide (fun u hu => by
          have hB3 := HN2.out.later hu
          obtain ⟨v', w', hr3, hg3⟩ := app_s4 (TV (gl - f)) hB3.hd hB3.1.size (by rw [HTS.out.2]; have := HLN.out; omega)
          have hN3 := (hB3.grew hg3).rot
          exact ⟨v', w', hr3, hN3, HCC.out w' hN3.1⟩)
        have HVV := hide (Below.refl y2.heap.size y2)
        obtain ⟨e1, e2, e3⟩ := HCC.out y2 hN2.1
        have wgf : IntKind.i64.wrap (gl - f) = gl - f := by rw [IntKind.wrap_i64]; omega
        clear hb2 hB2 hr2 hg2 hN2 d1 d2 d3
        go_wp2_with (at_builtin; refine Lib.wpList_append_run _ rfl _ _ _ _ rfl _ _ rfl rfl _ _ HR2.out ?_)
        go_region_held3 (fun u => u.cell? ⟨b, off + k * 3, none⟩ = some (.int .i64 f) ∧ u.cell? ⟨b, off + k * 3 + 1, none⟩ = some (.int .i64 la) ∧ u.cell? ⟨b, off + k * 3 + 2, none⟩ = some (.int .i64 gl)) (first | exact HP.out | exact KS.out _ (below_d HVV.out (Below.refl _ _) rfl rfl rfl rfl)) ((first | (go_at_call 15; refine (CT.out _ _ (by omega) (by omega)).mono ?_; rintro e wy ⟨rfl, hy⟩; replace HVV := hide (below_d HVV.out hy rfl rfl rfl rfl); clear hy) | (refine step_append_e2 _ (by rfl) _ _ _ _ (by rfl) _ _ (by rfl) (by rfl) (HAP.out _ (below_d HVV.out (Below.refl _ _) rfl rfl rfl rfl)) ?_; rintro v10' y3 ⟨p1, p2⟩; have HP := hide p2; have HN3 := hide p1; clear p1 p2)))
        obtain ⟨v11', y4, hr4, hg4⟩ := app_b4 [0, 0] HN3.out.hd HN3.out.1.size (by decide) (by have := HLN.out; simp; omega) _ rfl
        have HR4 : Hid ((Builtin.append_ #[36, 36] 36 #[v11, .slice (some ⟨y3.heap.size, 0, none⟩) 2 2]).run Try.prog (y3.alloc (.cells #[.int .u8 0, .int .u8 0] 5)) = .ok v11' y4) := hide hr4
        have hN4 := ((HN3.out.later ((Below.refl _ _).alloc (Nat.le_refl _) _)).grew hg4).rot
        have HN4 : Hid (BN w y4 [(v8', tw (zl (cs.take (k + 1)))), (v9', tw (zf (cs.take (k + 1)))), (v10', tw (zd (cs.take (k + 1)))), (v11', tw (List.replicate (k + 1) 0))]) := hide (by
          obtain ⟨t1, t2', t3⟩ := HT1.out
          rw [t1, t2', t3, List.replicate_succ', tw_app, tw_app, tw_app, tw_app]
          have e : ∀ x, tw [x] = t2 x := fun x => by unfold tw; simp
          rw [e, e, e, e, t2_zero, ← HTS.out.1, ← HTS.out.1, ← HTS.out.1]
          exact hN4)
        clear hr4 hg4 hN4
        go_wp2_with (at_builtin; refine Lib.wpList_append_run _ rfl _ _ _ _ rfl _ _ rfl rfl _ _ HR4.out ?_)
        go_roundw
        case rel => exact ⟨k + 1, by go_num, hide ⟨by omega, HNX.out, HN4.out⟩⟩
        case measure => simp [intOf]; omega
    · have hlt' : ¬ (k : Int) < (len : Int) := by omega
      obtain rfl : k = len := by omega
      have HT : Hid (narB cs = true) := hide (nar_yes (by have := HL.out; omega) (fun i hi => HALL.out i (by have := HL.out; omega)))
      have eT : cs.take k = cs := List.take_of_length_le (by rw [HL.out]; omega)
      rw [eT] at hB
      obtain ⟨hbw, hrows, _⟩ := hB
      have b8 := hrows _ (List.mem_cons_self)
      have b9 := hrows (v9, tw (zf cs)) (by simp)
      have b10 := hrows (v10, tw (zd cs)) (by simp)
      have b11 := hrows (v11, tw (List.replicate k 0)) (by simp)
      simp only at b8 b9 b10 b11
      obtain ⟨S8, hS8⟩ : ∃ S : ByteArray, (⟨(tw (zl cs)).toArray⟩ : ByteArray) = S := ⟨_, rfl⟩
      obtain ⟨S9, hS9⟩ : ∃ S : ByteArray, (⟨(tw (zf cs)).toArray⟩ : ByteArray) = S := ⟨_, rfl⟩
      obtain ⟨S10, hS10⟩ : ∃ S : ByteArray, (⟨(tw (zd cs)).toArray⟩ : ByteArray) = S := ⟨_, rfl⟩
      obtain ⟨S11, hS11⟩ : ∃ S : ByteArray, (⟨(tw (List.replicate k 0)).toArray⟩ : ByteArray) = S := ⟨_, rfl⟩
      obtain ⟨SR, hSR⟩ : ∃ S : ByteArray, (⟨(sr2 (k + 1)).toArray⟩ : ByteArray) = S := ⟨_, rfl⟩
      obtain ⟨FV, hFV⟩ : ∃ S : ByteArray, (⟨(t4 12).toArray⟩ : ByteArray) = S := ⟨_, rfl⟩
      rw [hSR] at CS
      rw [hFV] at C12
      have n8 : S8.size = 2 * k := by rw [← hS8, Lib.size_eq]; show (tw (zl cs)).length = _; rw [tw_len]; unfold zl; rw [List.length_map, HL.out]
      have n9 : S9.size = 2 * k := by rw [← hS9, Lib.size_eq]; show (tw (zf cs)).length = _; rw [tw_len]; unfold zf; rw [List.length_map, HL.out]
      have n10 : S10.size = 2 * k := by rw [← hS10, Lib.size_eq]; show (tw (zd cs)).length = _; rw [tw_len]; unfold zd; rw [List.length_map, HL.out]
      have n11 : S11.size = 2 * k := by rw [← hS11, Lib.size_eq]; show (tw (List.replicate k 0)).length = _; rw [tw_len]; simp
      have nR : SR.size = 6 := by rw [← hSR]; rfl
      have nF : FV.size = 4 := by rw [← hFV]; rfl
      obtain ⟨M, hM⟩ : ∃ M : Nat, k + 1 = M := ⟨_, rfl⟩
      rw [hM] at CS
      have hMi : (k : Int) + 1 = (M : Int) := by omega
      obtain ⟨B1, q1, x1, s1⟩ := cat11 (TV 0) (TV (2 * (M : Int))) 2 2 (HTS.out.2 _) (HTS.out.2 _) (by omega)
      obtain ⟨B2, q2, x2, s2⟩ := cat11 B1 SR 4 6 s1 nR (by omega)
      obtain ⟨B3, q3, x3, s3⟩ := cat11 B2 S8 10 (2 * k) s2 n8 (by omega)
      obtain ⟨B4, q4, x4, s4⟩ := cat11 B3 ⟨#[255, 255, 0, 0]⟩ (10 + 2 * k) 4 s3 rfl (by omega)
      obtain ⟨B5, q5, x5, s5⟩ := cat11 B4 S9 (10 + 2 * k + 4) (2 * k) s4 n9 (by omega)
      obtain ⟨B6, q6, x6, s6⟩ := cat11 B5 ⟨#[255, 255]⟩ (10 + 2 * k + 4 + 2 * k) 2 s5 rfl (by omega)
      obtain ⟨B7, q7, x7, s7⟩ := cat11 B6 S10 (10 + 2 * k + 4 + 2 * k + 2) (2 * k) s6 n10 (by omega)
      obtain ⟨B8, q8, x8, s8⟩ := cat11 B7 ⟨#[0, 1]⟩ (10 + 2 * k + 4 + 2 * k + 2 + 2 * k) 2 s7 rfl (by omega)
      obtain ⟨B9, q9, x9, s9⟩ := cat11 B8 S11 (10 + 2 * k + 4 + 2 * k + 2 + 2 * k + 2) (2 * k) s8 n11 (by omega)
      obtain ⟨BD, q10, x10, s10⟩ := cat11 B9 ⟨#[0, 0]⟩ (10 + 2 * k + 4 + 2 * k + 2 + 2 * k + 2 + 2 * k) 2 s9 rfl (by omega)
      have hbd : (BD.size : Int) + 4 = 16 + 8 * (M : Int) := by omega
      have hbdb : (BD.size : Int) ≤ 40000 := by omega
      obtain ⟨A1, r1, y1, a1⟩ := cat11 ⟨#[0, 0, 0, 1]⟩ (TV 3) 4 2 rfl (HTS.out.2 _) (by omega)
      obtain ⟨A2, r2, y2, a2⟩ := cat11 A1 (TV 1) 6 2 a1 (HTS.out.2 _) (by omega)
      obtain ⟨A3, r3, y3, a3⟩ := cat11 A2 FV 8 4 a2 nF (by omega)
      obtain ⟨A4, r4, y4, a4⟩ := cat11 A3 (TV 4) 12 2 a3 (HTS.out.2 _) (by omega)
      obtain ⟨A5, r5, y5, a5⟩ := cat11 A4 (TV (16 + 8 * (M : Int))) 14 2 a4 (HTS.out.2 _) (by omega)
      obtain ⟨A6, r6, y6, a6⟩ := cat11 A5 BD 16 BD.size a5 rfl (by omega)
      have hT : A6 = ⟨(naT cs).toArray⟩ := bs_eq2 (by
        rw [y6, y5, y4, y3, y2, y1, x10, x9, x8, x7, x6, x5, x4, x3, x2, x1]
        rw [HTS.out.1, HTS.out.1, HTS.out.1, HTS.out.1, HTS.out.1, HTS.out.1, ← hS8, ← hS9, ← hS10, ← hS11, ← hSR, ← hFV]
        unfold naT opT fo
        rw [HL.out, hM, hMi, show (2 : Int) * (M : Int) - 2 * (powV M : Int) = 2 * ((M : Int) - (powV M : Int)) by omega, ← hM, List.replicate_succ', hM, tw_app, tw_app, tw_app, tw_app]
        unfold sr2
        generalize zl cs = Z1
        generalize zf cs = Z2
        generalize zd cs = Z3
        have e : ∀ x, tw [x] = t2 x := fun x => by unfold tw; simp
        have e3 : ∀ x y z, tw [x, y, z] = t2 x ++ t2 y ++ t2 z := fun x y z => by unfold tw; simp
        have e6 : ∀ x y z u v t, tw [x, y, z, u, v, t] = t2 x ++ t2 y ++ t2 z ++ t2 u ++ t2 v ++ t2 t := fun x y z u v t => by unfold tw; simp
        rw [e, e, e, e3, e6]
        have c1 : t2 65535 = [255, 255] := by decide
        have c2 : t2 1 = [0, 1] := by decide
        have c4 : t2 4 = [0, 4] := by decide
        simp only [c1, c2, c4, t2_zero, List.flatMap_cons, List.flatMap_nil, List.append_nil, List.append_assoc, List.cons_append, List.nil_append])
      have HTT := hide hT
      have KT := hide (fun (u : World) (hu : Below wr.heap.size wr u) => (show (convert 36 9 v8).run Try.prog u = .ok (.string S8) u ∧ (convert 36 9 v9).run Try.prog u = .ok (.string S9) u ∧ (convert 36 9 v10).run Try.prog u = .ok (.string S10) u ∧ (convert 36 9 v11).run Try.prog u = .ok (.string S11) u by
        rw [← hS8, ← hS9, ← hS10, ← hS11]
        exact ⟨BRow.text (b8.later hu), BRow.text (b9.later hu), BRow.text (b10.later hu), BRow.text (b11.later hu)⟩))
      have HVV := hide (Below.refl wr.heap.size wr)
      have w2 : IntKind.i64.wrap (2 * (M : Int)) = 2 * (M : Int) := by rw [IntKind.wrap_i64]; omega
      have hM1 : (M : Int) ≤ 4096 := by omega
      have hM0 : (0 : Int) ≤ (M : Int) := by omega
      have HBW := hide hbw
      have hwM : IntKind.i64.wrap (M : Int) = (M : Int) := by rw [IntKind.wrap_i64]; omega
      clear hbw hrows b8 b9 b10 b11 hS8 hS9 hS10 hS11 hSR hFV n8 n9 n10 n11 nR nF hT x1 x2 x3 x4 x5 x6 x7 x8 x9 x10 y1 y2 y3 y4 y5 y6 s1 s2 s3 s4 s5 s6 s7 s8 s9 s10 a1 a2 a3 a4 a5 a6 eT hlt HALL HB hM
      go_wp2_with fail
      go_region_held3 (fun u => (convert 36 9 v8).run Try.prog u = .ok (.string S8) u ∧ (convert 36 9 v9).run Try.prog u = .ok (.string S9) u ∧ (convert 36 9 v10).run Try.prog u = .ok (.string S10) u ∧ (convert 36 9 v11).run Try.prog u = .ok (.string S11) u) (exact KT.out _ (below_d HVV.out (Below.refl _ _) rfl rfl rfl rfl)) ((first | (go_at_call 15; refine (CT.out _ _ (by omega) (by omega)).mono ?_; rintro e wy ⟨rfl, hy⟩; replace HVV := hide (below_d HVV.out hy rfl rfl rfl rfl); clear hy) | (go_at_call 16; refine (CS.out _).mono ?_; rintro e wy ⟨rfl, hy⟩; replace HVV := hide (below_d HVV.out hy rfl rfl rfl rfl); clear hy)))
      all_goals
        go_wp2_with fail
        refine (CT.out _ _ (by omega) (by omega)).mono ?_
        rintro e z1 ⟨rfl, hz1⟩
        replace HVV := hide (below_d HVV.out hz1 rfl rfl rfl rfl)
        clear hz1
        go_wp2_with fail
        refine (CT.out _ _ (by omega) (by omega)).mono ?_
        rintro e z2 ⟨rfl, hz2⟩
        replace HVV := hide (below_d HVV.out hz2 rfl rfl rfl rfl)
        clear hz2
        go_wp2_with fail
        refine (C12.out _).mono ?_
        rintro e z3 ⟨rfl, hz3⟩
        replace HVV := hide (below_d HVV.out hz3 rfl rfl rfl rfl)
        clear hz3
        go_wp2_with fail
        refine (CT.out _ _ (by omega) (by omega)).mono ?_
        rintro e z4 ⟨rfl, hz4⟩
        replace HVV := hide (below_d HVV.out hz4 rfl rfl rfl rfl)
        clear hz4
        go_wp2_with fail
        refine (CT.out _ _ (by omega) (by omega)).mono ?_
        rintro e z5 ⟨rfl, hz5⟩
        replace HVV := hide (below_d HVV.out hz5 rfl rfl rfl rfl)
        clear hz5
        go_wp2_with fail
        go_ret2
        unfold NbR
        rw [HT.out, if_pos rfl]
        exact ⟨by rw [← HTT.out]; rfl, HBW.out.trans (HVV.out.mono HBW.out.size)⟩
end Go.Proofs.Ythgpchjkeidilaa
