/- Proved: for every list of ints UtfEncodes returns true and leaves its arguments as they were (no condition but the card's own: Go's library's tables read as the program's text lays them). -/
import Derived.Test.YtncmkiejamkklaaDoorCards
import Derived.Test.YtncmkiejamkklaaDoorTie
import Derived.Test.YtncmkiejamkklaaDoorU4Wakes
import Derived.Test.YtncmkiejamkklaaDoorU4REnc
import Derived.Test.YtncmkiejamkklaaDoorU4Glo
import Derived.Test.YtncmkiejamkklaaDoorU4Open
import Derived.WalkKit
import Derived.ProofKit
import Derived.OpenShut
import Derived.ShutString
import Derived.ChangeOld
import Derived.Below
import Derived.Deep.DeepHandedRow
import Derived.LaidLaws
import Derived.Lay
import Derived.MakeChecks
import Derived.SevenTiedAt
namespace Go.Proofs.YtncmkiejamkklaaDoor.utfEncodes
open Go.ChangeShapes Go.WideShapes Go.ChangeAt Go.RowKit
open Go.ChangeMaps (open_string shut_string)
set_option linter.unusedVariables false

theorem own : ownKnob Tryd.prog.godebug = none := by kernel_rfl
theorem laidOut : laidOutB Tryd.prog = true := by kernel_rfl


theorem walk (a : Option Addr) (len cap : Nat) (zs : List Int) (w : World) (hR : ZRow w a len cap zs) (hL : laidMetH Tryd.prog Rows.utfEncodesRow.laid w) (hsh : w.ShapedOpen Tryd.prog) :
    Calls Tryd.prog 4 #[.slice a len cap] w fun e w' => e = .returned (.bool true) ∧ Below w.heap.size w w' := by
  have hg := glo_of hL
  obtain ⟨hl, hlc, hcm, hLst, _⟩ := hR
  obtain ⟨ys, hys⟩ : ∃ ys, zs.take 4096 = ys := ⟨_, rfl⟩
  have hyl : ys.length ≤ 4096 := by rw [← hys, List.length_take]; omega
  have CI := hide (fun (w' : World) (h : Lst w' a zs) => ints_any a len cap 4096 zs w' hl hlc hcm h (by omega) (by omega))
  rw [hys] at CI
  rw [show ((4096 : Nat) : Int) = 4096 from rfl] at CI
  obtain ⟨n, hn⟩ : ∃ n, ys.length = n := ⟨_, rfl⟩
  obtain ⟨S, hS⟩ : ∃ S, wrS e8 [] ys = S := ⟨_, rfl⟩
  obtain ⟨E, hE⟩ : ∃ E, wrE ys = E := ⟨_, rfl⟩
  have C1 := hide (fun a cap w h => encode_core a n cap ys w hn (by omega) h S E hS hE)
  have C2 := hide (fun a cap w h => rencode_core a n cap ys w hn (by omega) h S E hS hE)
  have CW := hide (fun w' (h : Below w.heap.size w w') => wakes_any w' (hg.below h))
  have HL := hide hLst
  have Hn := hide hn
  have Hy := hide hyl
  clear hLst hl hlc hcm hys hyl hn hL hsh hg hS hE
  go_enter Tryd.func4, Tryd.ntmps4
  go_wp2_with fail
  refine (CI.out _ HL.out).mono ?_
  rintro e w1 ⟨v, rfl, g1, c1, rfl, B1, hg1, hg1', hc1, hc1', L1⟩
  rw [Hn.out]
  have S1 := hide L1
  have D1 := hide B1
  clear L1 hc1 hc1' B1 hg1 hg1'
  go_wp2_with fail
  refine (C1.out _ _ _ S1.out).mono ?_
  rintro e w2 ⟨rfl, hb2⟩
  have T1 := hide ((HL.out.below D1.out).below hb2)
  have S2 := hide (S1.out.below hb2)
  have D2 := hide (D1.out.trans (hb2.mono D1.out.size))
  clear hb2
  go_wp2_with fail
  refine (CI.out _ T1.out).mono ?_
  rintro e w3 ⟨v, rfl, g2, c2, rfl, B2, hg2, hg2', hc2, hc2', L2⟩
  rw [Hn.out]
  have R3 := hide L2
  have T3 := hide (T1.out.below B2)
  have S3 := hide (S2.out.below B2)
  have D3 := hide (D2.out.trans (B2.mono D2.out.size))
  clear L2 hc2 hc2' B2 hg2 hg2'
  go_wp2_with fail
  refine (C2.out _ _ _ R3.out).mono ?_
  rintro e w4 ⟨rfl, hb4⟩
  have T4 := hide (T3.out.below hb4)
  have S4 := hide (S3.out.below hb4)
  have D4 := hide (D3.out.trans (hb4.mono D3.out.size))
  clear hb4
  go_wp2_with fail
  refine (CI.out _ T4.out).mono ?_
  rintro e w5 ⟨v, rfl, g3, c3, rfl, B3, hg3, hg3', hc3, hc3', L3⟩
  rw [Hn.out]
  have R5 := hide L3
  have S5 := hide (S4.out.below B3)
  have D5 := hide (D4.out.trans (B3.mono D4.out.size))
  clear L3 hc3 hc3' B3 hg3 hg3'
  go_wp2_with fail
  refine (same_any (some ⟨g1, 0, none⟩) (some ⟨g3, 0, none⟩) n c1 c3 ys w5 Hn.out (by have := Hy.out; have := Hn.out; omega) S5.out R5.out).mono ?_
  rintro e w' ⟨rfl, k3, rfl⟩
  have D6 := hide (bl_drewN D5.out k3)
  go_wp2_with (go_at_call 9; refine (CW.out _ D6.out).mono ?_; rintro e w7 ⟨rfl, hb7⟩)
  go_ret
  exact ⟨rfl, D6.out.trans (hb7.mono D6.out.size)⟩

set_option maxRecDepth 100000 in
theorem lifted (os : Os) (started : os.Started) (H : Type) (enc : TypeId × Value → H) (F : Stop.Interp) :
    ReturnsInHanded {} Tryd.checked os 4 .any ((OpenSpec.ofChange Rows.utfEncodesSpec).preRow enc Tryd.prog Tryd.f4 Rows.utfEncodesRow.domain false Rows.utfEncodesRow.laid) (((OpenSpec.ofChange Rows.utfEncodesSpec).at F).post enc Tryd.prog Tryd.f4 false true false false) := by
  refine returnsInHanded_of_row (C := Tryd.checked) (s := OpenSpec.ofChange Rows.utfEncodesSpec) own started (by kernel_rfl) Tryd.func4 ?_ ?_
  · exact ChangeSpec.witness_shaped (enc := enc) (C := Tryd.checked) (os := os) (X := fun w _ => laidMetH Tryd.prog Rows.utfEncodesRow.laid w) false (World.laidAll Tryd.prog os Rows.utfEncodesRow.laid) #[.slice none 0 0] 8 (World.laidAll_os _ _ _)
      (World.shaped_of_ZipB (by kernel_rfl) (by kernel_rfl)) (by kernel_rfl) (by kernel_rfl) (by kernel_rfl)
      (by rw [MakeChecks.laidMetH_plain _ _ _ (by kernel_rfl)]; exact laidMet_laidAll _ (by kernel_rfl) (by kernel_rfl))
  intro W base args ds gs before hval0 hW _ _ _ hL hsh _
  have hval : ∀ (j : Nat) t v, Tryd.f4.params[j]? = some t → args[j]? = some v → Value.okWide Tryd.prog W .any base t v := hval0
  have hW' := hW
  obtain ⟨p, q, hA0, hV, rfl, hfz, hnd⟩ := hW
  have hA : DataW.TrodAll enc Tryd.prog W 0 (fun _ => true) true Tryd.f4.params.toList args.toList ds p := hA0
  rw [Tryd.params4] at hA hval
  obtain ⟨v0, vs0, d0, ds0, p0, q0, hargs, rfl, rfl, h0, r0⟩ := trodAll_cons hA
  obtain ⟨rfl, rfl, rfl⟩ := trodAll_nil r0
  obtain rfl : args = #[v0] := by cases args; simp_all
  obtain ⟨rfl, rfl⟩ := trodVars_none hV
  have k0 := h0
  have lt0 : ∀ x ∈ p0, x.block < W.heap.size := by obtain ⟨m, hm⟩ := k0; exact DataW.trod_lt m _ _ _ hm
  obtain ⟨a, len, cap, zs, rfl, hR⟩ := open_zs (hval 0 23 v0 rfl rfl) h0
  clear hA0 hval0
  refine (walk a len cap zs W hR hL hsh).mono fun e W' ⟨he, bel⟩ => ?_
  subst he
  exact ⟨_, rfl, _, _, _, [], _, [], hW', trodAll_mk1 (shut_bool Tryd.underlying4 _), (trodAll_cons_mk (Below.trod laidOut (by kernel_rfl) (of_decide_eq_true (by kernel_rfl)) k0 bel lt0) trodAll_mk0), rfl, bel.frame _, fun h => by cases h⟩

theorem said : Rows.UtfEncodesSaid :=
  OpenClaim.holds_of_cond 4 Tryd.f4 rfl rfl rfl rfl rfl rfl rfl ⟨rfl, rfl, rfl, rfl, rfl⟩ rfl rfl rfl rfl rfl (by kernel_rfl) Tryd.func4 (by kernel_rfl)
    (of_decide_eq_true (by kernel_rfl)) (by unfold Func.isWrapper; first | (rw [if_pos (by decide +kernel)]; kernel_rfl) | (rw [if_neg (by decide +kernel)]; exact ⟨rfl, rfl⟩))
    (fun os started H enc _ F => by rw [OpenClaim.pre_eq_preRow]; exact lifted os started H enc F)

theorem plain (f : FuncId) (fn : Func) (hf : Tryd.pinned.checked.prog.funcNamed Tryd.f4.name = some f) (hfn : Tryd.pinned.checked.prog.funcs[f]? = some fn) :
    false = Tryd.pinned.checked.prog.looks [] ∧ ∀ (j : Nat) t, fn.params[j]? = some t → Tryd.pinned.checked.prog.wantsStandIn t = false := by
  obtain rfl : f = 4 := Option.some.inj ((show Tryd.prog.funcNamed Tryd.f4.name = some 4 by kernel_rfl).symm.trans hf) |>.symm
  obtain rfl : fn = Tryd.f4 := (Option.some.inj (Tryd.func4.symm.trans hfn)).symm
  refine ⟨by kernel_rfl, fun j t ht => ?_⟩
  rw [Tryd.params4] at ht
  have hm : t ∈ [23] := by simpa using Array.mem_of_getElem? ht
  have hall : ([23].all fun u => !Tryd.prog.wantsStandIn u) = true := by kernel_rfl
  exact (show Tryd.prog.wantsStandIn t = false by simpa using List.all_eq_true.1 hall t hm)

theorem proved : Rows.UtfEncodesCardSaid :=
  Claim7.holds_tied_plain_at .later [] _ _ _ _ said (fun _ h => by cases h) (by kernel_rfl) (fun _ h => by cases h) utfEncodes_row_tie rfl ⟨rfl, rfl⟩ (by kernel_rfl) rfl plain (by kernel_rfl)
end Go.Proofs.YtncmkiejamkklaaDoor.utfEncodes
namespace Go.Proofs.YtncmkiejamkklaaDoor
theorem utfEncodes_holds : Rows.UtfEncodesCardSaid := utfEncodes.proved
#print axioms utfEncodes_holds
end Go.Proofs.YtncmkiejamkklaaDoor
