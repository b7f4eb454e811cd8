/- Proved: for every list of ints UtfStretches returns true and leaves its arguments as they were (no condition but the card's own: Go's library's tables read as the program's text lays them). -/
import Derived.Test.YtncmkiejamkklabDoorCards
import Derived.Test.YtncmkiejamkklabDoorTie
import Derived.Test.YtncmkiejamkklabDoorU4Wakes
import Derived.Test.YtncmkiejamkklabDoorU4Wrds
import Derived.Test.YtncmkiejamkklabDoorU4Str
import Derived.Test.YtncmkiejamkklabDoorU4Glo
import Derived.Test.YtncmkiejamkklabDoorU4Open
import Derived.WalkKit
import Derived.ProofKit
import Derived.OpenShut
import Derived.ShutString
import Derived.ChangeOld
import Derived.Below
import Derived.Deep.DeepHandedRow
import Derived.LaidLaws
import Derived.Lay
import Derived.MakeChecks
import Derived.SevenTiedAt
namespace Go.Proofs.YtncmkiejamkklabDoor.utfStretches
open Go.ChangeShapes Go.WideShapes Go.ChangeAt Go.RowKit
open Go.ChangeMaps (open_string shut_string)
set_option linter.unusedVariables false

theorem own : ownKnob Tryd.prog.godebug = none := by kernel_rfl
theorem laidOut : laidOutB Tryd.prog = true := by kernel_rfl

theorem row_lst {w : World} {B : Nat} {e : TypeId} {v : Value} {ws : List (Nat × Nat)} (h : w.ownsRow B e 2 v ws.length ((flat ws).map (Value.int .i64))) :
    ∃ a cap, v = .slice a ws.length cap ∧ Lst w a (flat ws) ∧ ws.length ≤ cap ∧ cap ≤ 9223372036854775807 := by
  have h' := h
  obtain ⟨_, ⟨h0, h1⟩ | ⟨g, cap, cur, hv, hg, hh, hc, hm, _⟩⟩ := h'
  · exact ⟨none, 0, by rw [h0, h1], Or.inl (by rw [List.eq_nil_of_length_eq_zero h1]; rfl), by omega, by omega⟩
  · refine ⟨some ⟨g, 0, none⟩, cap, hv, ?_, hc, by unfold maxLen at hm; exact hm⟩
    rw [hv] at h
    refine Or.inr ⟨g, 0, rfl, (World.ownsRow.lt h g rfl).2, fun i hi => ?_⟩
    rw [flat_len] at hi
    have hl : i < (flat ws).length := by rw [flat_len]; exact hi
    rw [Nat.zero_add, World.ownsRow.cellAt h i hi, List.getElem?_map, List.getElem?_eq_getElem hl, List.getD_eq_getElem?_getD, List.getElem?_eq_getElem hl]
    rfl
theorem wst_len (b : Nat → Bool) (k : Nat) : (wst b k).1.length + (if (wst b k).2.isSome then 1 else 0) ≤ k := by
  induction k with
  | zero => simp [wst]
  | succ k ih =>
    unfold wst
    generalize wst b k = s at *
    obtain ⟨cl, o⟩ := s
    cases o <;> cases b k <;> simp [wstep] at ih ⊢ <;> omega
theorem flat_wF (ws : List (Nat × Nat)) (i : Nat) (h : i < ws.length) : (flat ws).getD (i * 2) 0 = (wF ws i : Int) ∧ (flat ws).getD (i * 2 + 1) 0 = (wT ws i : Int) := by
  obtain ⟨h1, h2⟩ := flat_at ws i h
  unfold wF wT
  rw [h1, h2, List.getD_eq_getElem?_getD, List.getElem?_eq_getElem h]
  exact ⟨rfl, rfl⟩
theorem isB_t {z : Int} (h : isB z = true) : (clsV z != 1) = false := by unfold isB at h; simp at h; simp [h]
theorem isB_f {z : Int} (h : isB z = false) : (clsV z == 1) = false := h
set_option maxRecDepth 100000 in
set_option maxHeartbeats 4000000 in
theorem core (a : Option Addr) (len cap : Nat) (zs : List Int) (w : World) (hR : ZRow w a len cap zs) (hg : Glo w) :
    Calls Tryd.prog 3 #[.slice a len cap] w fun e w' => e = .returned (.bool true) ∧ Below w.heap.size w w' := by
  obtain ⟨hl, hlc, hcm, hLst, _⟩ := hR
  obtain ⟨ys, hys⟩ : ∃ ys, zs.take 4096 = ys := ⟨_, rfl⟩
  have hyl : ys.length ≤ 4096 := by rw [← hys, List.length_take]; omega
  have CI := hide (fun (w' : World) (h : Lst w' a zs) => ints_any a len cap 4096 zs w' hl hlc hcm h (by omega) (by omega))
  rw [hys] at CI
  rw [show ((4096 : Nat) : Int) = 4096 from rfl] at CI
  obtain ⟨n, hn⟩ : ∃ n, ys.length = n := ⟨_, rfl⟩
  obtain ⟨WS, hW⟩ : ∃ WS, wrds ys = WS := ⟨_, rfl⟩
  have hwn : WS.length ≤ 4097 := by
    have := wst_len (blk ys) (ys.length + 1)
    rw [← hW]
    unfold wrds
    omega
  have hst := strs ys
  rw [hW] at hst
  have HST := hide hst
  have C1 := hide (fun a cap w h => words_core a n cap ys w hn (by omega) h WS hW)
  have CW := hide (fun w' (h : Below w.heap.size w w') => wakes_any w' (hg.below h))
  have HL := hide hLst
  have Hn := hide hn
  obtain ⟨q, hq⟩ : ∃ q, WS.length = q := ⟨_, rfl⟩
  have HQ := hide hq
  have q1 : (q : Int) ≤ 4097 := by omega
  have n1 : (n : Int) ≤ 4096 := by omega
  clear hLst hl hlc hcm hys hyl hn hg hW hwn hq hst
  go_enter Tryd.func3, Tryd.ntmps3
  go_wp2_with fail
  refine (CI.out _ HL.out).mono ?_
  rintro e w1 ⟨v, rfl, g1, c1, rfl, B1, hg1, hg1', hc1, hc1', L1⟩
  rw [Hn.out]
  have S1 := hide L1
  have D1 := hide B1
  clear L1 hc1 hc1' B1 hg1 hg1'
  go_wp2_with fail
  refine (C1.out _ _ _ S1.out).mono ?_
  rintro e w2 ⟨v, rfl, hr, hb⟩
  obtain ⟨a2, cap2, rfl, hL, hc1, hc2⟩ := row_lst hr
  rw [HQ.out]
  have L2 := hide hL
  have S2 := hide (S1.out.below hb)
  have D2 := hide (D1.out.trans (hb.mono D1.out.size))
  clear hb hr hL hc1 hc2
  have HCELL : Hid (∀ j, j < n → w2.cell? ⟨g1, j, none⟩ = some (.int .i64 (ys.getD j 0))) := by
    intro j hj
    rcases S2.out with hz | ⟨b, off, e, hb, hc⟩
    · have := Hn.out; rw [hz] at this; simp at this; omega
    · simp only [Option.some.injEq, Addr.mk.injEq] at e
      obtain ⟨rfl, rfl, _⟩ := e
      have := hc j (by rw [Hn.out]; exact hj)
      rwa [Nat.zero_add] at this
  go_wp2_with fail
  go_loopw [5, 6] (fun va vi wr => ∃ (i : Nat) (AI : Int), vi = .int .i64 i ∧ va = .int .i64 AI ∧ Hid (wr = w2 ∧ i ≤ q ∧ AI = (wA WS i : Int))) (fun _ vi _ => q + 1 - (intOf vi).toNat)
  case atStart => exact ⟨0, 0, rfl, rfl, hide ⟨rfl, by omega, rfl⟩⟩
  case round =>
    obtain ⟨i, AI, rfl, rfl, HK⟩ := hrel
    obtain ⟨hw, i1, i2⟩ := HK.out
    clear HK
    replace hw := hw.symm
    subst hw
    have hle' : (i : Int) ≤ (q : Int) := by omega
    by_cases hlt : i < q
    · have hlt' : (i : Int) < (q : Int) := by omega
      have hne : ((i : Int) == (q : Int)) = false := by rw [beq_eq_false_iff_ne]; omega
      have hiw : i < WS.length := by rw [HQ.out]; exact hlt
      have hfl : (flat WS).length = q * 2 := by rw [flat_len, HQ.out]
      obtain ⟨f1, f2⟩ := flat_wF WS i hiw
      rcases L2.out with hz | ⟨b2, o2, rfl, hb2, hcell2⟩
      · rw [hz] at hfl; simp at hfl; omega
      have p1 := hcell2 (i * 2) (by omega)
      have p2 := hcell2 (i * 2 + 1) (by omega)
      rw [← Nat.add_assoc] at p2
      obtain ⟨s1, s2, s3, s4⟩ := HST.out.one i hiw
      rw [Hn.out] at s2
      have HBL := hide (HST.out.bl i hiw)
      have HNB := hide (HST.out.nb i hiw)
      have HNX := hide (show wA WS (i + 1) = wT WS i from rfl)
      obtain ⟨FI, hFI⟩ : ∃ FI : Int, FI = (wF WS i : Int) := ⟨_, rfl⟩
      obtain ⟨TI, hTI⟩ : ∃ TI : Int, TI = (wT WS i : Int) := ⟨_, rfl⟩
      rw [f1, ← hFI] at p1
      rw [f2, ← hTI] at p2
      generalize wF WS i = F at *
      generalize wT WS i = T at *
      generalize wA WS i = A at *
      have d1 : decide (FI < AI) = false := by simp; omega
      have d2 : decide (TI ≤ FI) = false := by simp; omega
      have d3 : decide ((n : Int) < TI) = false := by simp; omega
      have t1 : TI ≤ 4096 := by omega
      have ORD := hide (show A ≤ F ∧ F < T ∧ T ≤ n by omega)
      have EQS := hide (show AI = (A : Int) ∧ FI = (F : Int) ∧ TI = (T : Int) from ⟨i2, hFI, hTI⟩)
      have wayi : i = 0 ∨ (0 < i ∧ (FI == AI) = false) := by
        rcases Nat.eq_zero_or_pos i with h | h
        · exact Or.inl h
        · right; refine ⟨h, ?_⟩; rw [beq_eq_false_iff_ne]; have := s4 h; omega
      clear f1 f2 hfl hcell2 s1 s2 s3 s4 hFI hTI i2 hiw
      rcases wayi with hi0 | ⟨hi0, d4⟩
      all_goals
        first
        | (have z0 : decide (0 < i) = false := by simp; omega
           have z1 : decide ((0 : Int) < (i : Int)) = false := by simp; omega
           clear hi0)
        | (have z0 : decide (0 < i) = true := by simp; omega
           have z1 : decide ((0 : Int) < (i : Int)) = true := by simp; omega
           clear hi0)
        go_wp2_with fail
        go_loopw [8] (fun vk wr => ∃ (j : Nat), vk = .int .i64 j ∧ Hid (wr = w2 ∧ A ≤ j ∧ j ≤ F)) (fun vk _ => F - (intOf vk).toNat)
        case atStart => exact ⟨A, by rw [EQS.out.1], hide ⟨rfl, Nat.le_refl _, ORD.out.1⟩⟩
        case round =>
          obtain ⟨j, rfl, HJ⟩ := hrel
          obtain ⟨hw, j1, j2⟩ := HJ.out
          clear HJ
          replace hw := hw.symm
          subst hw
          by_cases hj : j < F
          · have hj' : (j : Int) < FI := by have := EQS.out; omega
            have hjn : (j : Int) < (n : Int) := by have := ORD.out; omega
            have hcj := HCELL.out j (by have := ORD.out; omega)
            have hT := isB_t (HBL.out j j1 hj)
            generalize ys.getD j 0 = z at *
            go_wp2_with (go_at_call 6; refine (class_any _ _).mono ?_; rintro e wq ⟨rfl, rfl⟩)
            go_roundw
            case rel => exact ⟨j + 1, by go_num, hide ⟨trivial, by omega, by omega⟩⟩
            case measure => simp [intOf]; omega
          · have hj' : decide ((j : Int) < FI) = false := by have := EQS.out; simp; omega
            go_wp2_with fail
            go_loopw [9] (fun vk wr => ∃ (m : Nat), vk = .int .i64 m ∧ Hid (wr = w2 ∧ F ≤ m ∧ m ≤ T)) (fun vk _ => T - (intOf vk).toNat)
            case atStart => exact ⟨F, by rw [EQS.out.2.1], hide ⟨rfl, Nat.le_refl _, by have := ORD.out; omega⟩⟩
            case round =>
              obtain ⟨m, rfl, HM⟩ := hrel
              obtain ⟨hw, m1, m2⟩ := HM.out
              clear HM
              replace hw := hw.symm
              subst hw
              by_cases hm : m < T
              · have hm' : (m : Int) < TI := by have := EQS.out; omega
                have hmn : (m : Int) < (n : Int) := by have := ORD.out; omega
                have hcm := HCELL.out m (by have := ORD.out; omega)
                have hT := isB_f (HNB.out m m1 hm)
                generalize ys.getD m 0 = z at *
                go_wp2_with (go_at_call 6; refine (class_any _ _).mono ?_; rintro e wq ⟨rfl, rfl⟩)
                go_roundw
                case rel => exact ⟨m + 1, by go_num, hide ⟨trivial, by omega, by omega⟩⟩
                case measure => simp [intOf]; omega
              · have hm' : decide ((m : Int) < TI) = false := by have := EQS.out; simp; omega
                go_wp2
                go_roundw
                case rel => exact ⟨i + 1, TI, by go_num, rfl, hide ⟨trivial, by omega, by rw [HNX.out]; exact EQS.out.2.2⟩⟩
                case measure => simp [intOf]; omega
    · obtain rfl : i = q := by omega
      have hlt' : decide ((i : Int) < (i : Int)) = false := by simp
      have heq : ((i : Int) == (i : Int)) = true := by simp
      have HF := hide (show wA WS i ≤ n ∧ ∀ j, wA WS i ≤ j → j < n → isB (ys.getD j 0) = true by have h := HST.out.fin; rw [HQ.out, Hn.out] at h; exact h)
      have HA := hide i2
      clear i2
      go_wp2_with fail
      go_loopw [8] (fun vk wr => ∃ (j : Nat), vk = .int .i64 j ∧ Hid (wr = w2 ∧ wA WS i ≤ j ∧ j ≤ n)) (fun vk _ => n - (intOf vk).toNat)
      case atStart => exact ⟨wA WS i, by rw [HA.out], hide ⟨rfl, Nat.le_refl _, HF.out.1⟩⟩
      case round =>
        obtain ⟨j, rfl, HJ⟩ := hrel
        obtain ⟨hw, j1, j2⟩ := HJ.out
        clear HJ
        replace hw := hw.symm
        subst hw
        by_cases hj : j < n
        · have hj' : (j : Int) < (n : Int) := by omega
          have hcj := HCELL.out j hj
          have hT := isB_t (HF.out.2 j j1 hj)
          generalize ys.getD j 0 = z at *
          go_wp2_with (go_at_call 6; refine (class_any _ _).mono ?_; rintro e wq ⟨rfl, rfl⟩)
          go_roundw
          case rel => exact ⟨j + 1, by go_num, hide ⟨trivial, by omega, by omega⟩⟩
          case measure => simp [intOf]; omega
        · have hj' : ¬ (j : Int) < (n : Int) := by omega
          go_wp2_with (go_at_call 7; refine (CW.out _ D2.out).mono ?_; rintro e w7 ⟨rfl, hb7⟩)
          go_ret
          exact ⟨rfl, D2.out.trans (hb7.mono D2.out.size)⟩

theorem walk (a : Option Addr) (len cap : Nat) (zs : List Int) (w : World) (hR : ZRow w a len cap zs) (hL : laidMetH Tryd.prog Rows.utfStretchesRow.laid w) (hsh : w.ShapedOpen Tryd.prog) :
    Calls Tryd.prog 3 #[.slice a len cap] w fun e w' => e = .returned (.bool true) ∧ Below w.heap.size w w' := by
  exact core a len cap zs w hR (glo_of hL)

set_option maxRecDepth 100000 in
theorem lifted (os : Os) (started : os.Started) (H : Type) (enc : TypeId × Value → H) (F : Stop.Interp) :
    ReturnsInHanded {} Tryd.checked os 3 .any ((OpenSpec.ofChange Rows.utfStretchesSpec).preRow enc Tryd.prog Tryd.f3 Rows.utfStretchesRow.domain false Rows.utfStretchesRow.laid) (((OpenSpec.ofChange Rows.utfStretchesSpec).at F).post enc Tryd.prog Tryd.f3 false true false false) := by
  refine returnsInHanded_of_row (C := Tryd.checked) (s := OpenSpec.ofChange Rows.utfStretchesSpec) own started (by kernel_rfl) Tryd.func3 ?_ ?_
  · exact ChangeSpec.witness_shaped (enc := enc) (C := Tryd.checked) (os := os) (X := fun w _ => laidMetH Tryd.prog Rows.utfStretchesRow.laid w) false (World.laidAll Tryd.prog os Rows.utfStretchesRow.laid) #[.slice none 0 0] 8 (World.laidAll_os _ _ _)
      (World.shaped_of_ZipB (by kernel_rfl) (by kernel_rfl)) (by kernel_rfl) (by kernel_rfl) (by kernel_rfl)
      (by rw [MakeChecks.laidMetH_plain _ _ _ (by kernel_rfl)]; exact laidMet_laidAll _ (by kernel_rfl) (by kernel_rfl))
  intro W base args ds gs before hval0 hW _ _ _ hL hsh _
  have hval : ∀ (j : Nat) t v, Tryd.f3.params[j]? = some t → args[j]? = some v → Value.okWide Tryd.prog W .any base t v := hval0
  have hW' := hW
  obtain ⟨p, q, hA0, hV, rfl, hfz, hnd⟩ := hW
  have hA : DataW.TrodAll enc Tryd.prog W 0 (fun _ => true) true Tryd.f3.params.toList args.toList ds p := hA0
  rw [Tryd.params3] at hA hval
  obtain ⟨v0, vs0, d0, ds0, p0, q0, hargs, rfl, rfl, h0, r0⟩ := trodAll_cons hA
  obtain ⟨rfl, rfl, rfl⟩ := trodAll_nil r0
  obtain rfl : args = #[v0] := by cases args; simp_all
  obtain ⟨rfl, rfl⟩ := trodVars_none hV
  have k0 := h0
  have lt0 : ∀ x ∈ p0, x.block < W.heap.size := by obtain ⟨m, hm⟩ := k0; exact DataW.trod_lt m _ _ _ hm
  obtain ⟨a, len, cap, zs, rfl, hR⟩ := open_zs (hval 0 22 v0 rfl rfl) h0
  clear hA0 hval0
  refine (walk a len cap zs W hR hL hsh).mono fun e W' ⟨he, bel⟩ => ?_
  subst he
  exact ⟨_, rfl, _, _, _, [], _, [], hW', trodAll_mk1 (shut_bool Tryd.underlying4 _), (trodAll_cons_mk (Below.trod laidOut (by kernel_rfl) (of_decide_eq_true (by kernel_rfl)) k0 bel lt0) trodAll_mk0), rfl, bel.frame _, fun h => by cases h⟩

theorem said : Rows.UtfStretchesSaid :=
  OpenClaim.holds_of_cond 3 Tryd.f3 rfl rfl rfl rfl rfl rfl rfl ⟨rfl, rfl, rfl, rfl, rfl⟩ rfl rfl rfl rfl rfl (by kernel_rfl) Tryd.func3 (by kernel_rfl)
    (of_decide_eq_true (by kernel_rfl)) (by unfold Func.isWrapper; first | (rw [if_pos (by decide +kernel)]; kernel_rfl) | (rw [if_neg (by decide +kernel)]; exact ⟨rfl, rfl⟩))
    (fun os started H enc _ F => by rw [OpenClaim.pre_eq_preRow]; exact lifted os started H enc F)

theorem plain (f : FuncId) (fn : Func) (hf : Tryd.pinned.checked.prog.funcNamed Tryd.f3.name = some f) (hfn : Tryd.pinned.checked.prog.funcs[f]? = some fn) :
    false = Tryd.pinned.checked.prog.looks [] ∧ ∀ (j : Nat) t, fn.params[j]? = some t → Tryd.pinned.checked.prog.wantsStandIn t = false := by
  obtain rfl : f = 3 := Option.some.inj ((show Tryd.prog.funcNamed Tryd.f3.name = some 3 by kernel_rfl).symm.trans hf) |>.symm
  obtain rfl : fn = Tryd.f3 := (Option.some.inj (Tryd.func3.symm.trans hfn)).symm
  refine ⟨by kernel_rfl, fun j t ht => ?_⟩
  rw [Tryd.params3] at ht
  have hm : t ∈ [22] := by simpa using Array.mem_of_getElem? ht
  have hall : ([22].all fun u => !Tryd.prog.wantsStandIn u) = true := by kernel_rfl
  exact (show Tryd.prog.wantsStandIn t = false by simpa using List.all_eq_true.1 hall t hm)

theorem proved : Rows.UtfStretchesCardSaid :=
  Claim7.holds_tied_plain_at .later [] _ _ _ _ said (fun _ h => by cases h) (by kernel_rfl) (fun _ h => by cases h) utfStretches_row_tie rfl ⟨rfl, rfl⟩ (by kernel_rfl) rfl plain (by kernel_rfl)
end Go.Proofs.YtncmkiejamkklabDoor.utfStretches
namespace Go.Proofs.YtncmkiejamkklabDoor
theorem utfStretches_holds : Rows.UtfStretchesCardSaid := utfStretches.proved
#print axioms utfStretches_holds
end Go.Proofs.YtncmkiejamkklabDoor
