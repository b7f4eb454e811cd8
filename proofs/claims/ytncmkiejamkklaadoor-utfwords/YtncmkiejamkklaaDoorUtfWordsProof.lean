/- Proved: for every list of ints UtfWords returns true and leaves its arguments as they were (no condition but the card's own: Go's library's tables read as the program's text lays them). -/
import Derived.Test.YtncmkiejamkklaaDoorCards
import Derived.Test.YtncmkiejamkklaaDoorTie
import Derived.Deep.QuietTactic
import Derived.BigQuiet
import Derived.Test.YtncmkiejamkklaaDoorU4Wakes
import Derived.Test.YtncmkiejamkklaaDoorU4Wrds
import Derived.Test.YtncmkiejamkklaaDoorU4RWrds
import Derived.Test.YtncmkiejamkklaaDoorU4Glo
import Derived.Test.YtncmkiejamkklaaDoorU4Open
import Derived.WalkKit
import Derived.ProofKit
import Derived.OpenShut
import Derived.ShutString
import Derived.ChangeOld
import Derived.Below
import Derived.Deep.DeepHandedRow
import Derived.LaidLaws
import Derived.Lay
import Derived.MakeChecks
import Derived.SevenTiedAt
namespace Go.Proofs.YtncmkiejamkklaaDoor.utfWords
open Go.ChangeShapes Go.WideShapes Go.ChangeAt Go.RowKit
open Go.ChangeMaps (open_string shut_string)
set_option linter.unusedVariables false

theorem own : ownKnob Tryd.prog.godebug = none := by kernel_rfl
theorem laidOut : laidOutB Tryd.prog = true := by kernel_rfl

theorem row_lst {w : World} {B : Nat} {e : TypeId} {v : Value} {ws : List (Nat × Nat)} (h : w.ownsRow B e 2 v ws.length ((flat ws).map (Value.int .i64))) :
    ∃ a cap, v = .slice a ws.length cap ∧ Lst w a (flat ws) ∧ ws.length ≤ cap ∧ cap ≤ 9223372036854775807 := by
  have h' := h
  obtain ⟨_, ⟨h0, h1⟩ | ⟨g, cap, cur, hv, hg, hh, hc, hm, _⟩⟩ := h'
  · exact ⟨none, 0, by rw [h0, h1], Or.inl (by rw [List.eq_nil_of_length_eq_zero h1]; rfl), by omega, by omega⟩
  · refine ⟨some ⟨g, 0, none⟩, cap, hv, ?_, hc, by unfold maxLen at hm; exact hm⟩
    rw [hv] at h
    refine Or.inr ⟨g, 0, rfl, (World.ownsRow.lt h g rfl).2, fun i hi => ?_⟩
    rw [flat_len] at hi
    have hl : i < (flat ws).length := by rw [flat_len]; exact hi
    rw [Nat.zero_add, World.ownsRow.cellAt h i hi, List.getElem?_map, List.getElem?_eq_getElem hl, List.getD_eq_getElem?_getD, List.getElem?_eq_getElem hl]
    rfl
theorem wst_len (b : Nat → Bool) (k : Nat) : (wst b k).1.length + (if (wst b k).2.isSome then 1 else 0) ≤ k := by
  induction k with
  | zero => simp [wst]
  | succ k ih =>
    unfold wst
    generalize wst b k = s at *
    obtain ⟨cl, o⟩ := s
    cases o <;> cases b k <;> simp [wstep] at ih ⊢ <;> omega
set_option maxRecDepth 100000 in
set_option maxHeartbeats 1000000 in
theorem core (a : Option Addr) (len cap : Nat) (zs : List Int) (w : World) (hR : ZRow w a len cap zs) (hg : Glo w) :
    Calls Tryd.prog 6 #[.slice a len cap] w fun e w' => e = .returned (.bool true) ∧ Below w.heap.size w w' := by
  obtain ⟨hl, hlc, hcm, hLst, _⟩ := hR
  obtain ⟨ys, hys⟩ : ∃ ys, zs.take 4096 = ys := ⟨_, rfl⟩
  have hyl : ys.length ≤ 4096 := by rw [← hys, List.length_take]; omega
  have CI := hide (fun (w' : World) (h : Lst w' a zs) => ints_any a len cap 4096 zs w' hl hlc hcm h (by omega) (by omega))
  rw [hys] at CI
  rw [show ((4096 : Nat) : Int) = 4096 from rfl] at CI
  obtain ⟨n, hn⟩ : ∃ n, ys.length = n := ⟨_, rfl⟩
  obtain ⟨WS, hW⟩ : ∃ WS, wrds ys = WS := ⟨_, rfl⟩
  have hwn : WS.length ≤ 4097 := by
    have := wst_len (blk ys) (ys.length + 1)
    rw [← hW]
    unfold wrds
    omega
  have C1 := hide (fun a cap w h => words_core a n cap ys w hn (by omega) h WS hW)
  have C2 := hide (fun a cap w h => rwords_core a n cap ys w hn (by omega) h WS hW)
  have CW := hide (fun w' (h : Below w.heap.size w w') => wakes_any w' (hg.below h))
  have HL := hide hLst
  have Hn := hide hn
  have Hy := hide hyl
  obtain ⟨q, hq⟩ : ∃ q, WS.length = q := ⟨_, rfl⟩
  have HQ := hide hq
  have q1 : (q : Int) ≤ 4097 := by omega
  clear hLst hl hlc hcm hys hyl hn hg hW hwn hq
  go_enter Tryd.func6, Tryd.ntmps6
  go_wp2_with fail
  refine (CI.out _ HL.out).mono ?_
  rintro e w1 ⟨v, rfl, g1, c1, rfl, B1, hg1, hg1', hc1, hc1', L1⟩
  rw [Hn.out]
  have S1 := hide L1
  have D1 := hide B1
  clear L1 hc1 hc1' B1 hg1 hg1'
  go_wp2_with fail
  refine (C1.out _ _ _ S1.out).mono ?_
  rintro e w2 ⟨v, rfl, hr, hb⟩
  obtain ⟨a2, cap2, rfl, hL, hc1, hc2⟩ := row_lst hr
  rw [HQ.out]
  have L2 := hide hL
  have S2 := hide (S1.out.below hb)
  have D2 := hide (D1.out.trans (hb.mono D1.out.size))
  clear hb hr hL hc1 hc2
  go_wp2_with fail
  refine (C2.out _ _ _ S2.out).mono ?_
  rintro e w3 ⟨v, rfl, hr, hb⟩
  obtain ⟨a3, cap3, rfl, hL, hc1, hc2⟩ := row_lst hr
  rw [HQ.out]
  have L3 := hide hL
  have L2' := hide (L2.out.below hb)
  have S3 := hide (S2.out.below hb)
  have T3 := hide (((HL.out.below D2.out).below hb))
  have D3 := hide (D2.out.trans (hb.mono D2.out.size))
  clear hb hr hL hc1 hc2
  have t0 : ((q : Int) != (q : Int)) = false := by simp
  go_wp2_with fail
  go_loopw [6] (fun vi wr => ∃ (k m : Nat), vi = .int .i64 k ∧ wr = w3.drewN m ∧ Hid (k ≤ q)) (fun vi _ => q - (intOf vi).toNat)
  case atStart => exact ⟨0, 0, rfl, rfl, hide (by omega)⟩
  case round =>
    obtain ⟨k, m, rfl, rfl, HK⟩ := hrel
    by_cases hlt : k < q
    · have hlt' : (k : Int) < (q : Int) := by omega
      have hfl : (flat WS).length = q * 2 := by rw [flat_len, HQ.out]
      rcases L2'.out with hz | ⟨b1, o1, rfl, hb1, hcell1⟩
      · rw [hz] at hfl; simp at hfl; omega
      rcases L3.out with hz | ⟨b2, o2, rfl, hb2, hcell2⟩
      · rw [hz] at hfl; simp at hfl; omega
      have p1 := hcell1 (k * 2) (by omega)
      have p2 := hcell1 (k * 2 + 1) (by omega)
      have r1 := hcell2 (k * 2) (by omega)
      have r2 := hcell2 (k * 2 + 1) (by omega)
      rw [← Nat.add_assoc] at p2 r2
      generalize (flat WS).getD (k * 2) 0 = x at *
      generalize (flat WS).getD (k * 2 + 1) 0 = y at *
      clear hcell1 hcell2 hfl
      go_wp2_with fail
      go_quiet (fail)
      go_wp2
      go_roundw
      case rel => exact ⟨k + 1, _, by go_num, rfl, hide (by omega)⟩
      case measure => simp [intOf]; omega
    · have hlt' : ¬ (k : Int) < (q : Int) := by omega
      have T4 := hide (T3.out.drewN m)
      have S4 := hide (S3.out.drewN m)
      have D4 := hide (bl_drewN D3.out m)
      go_wp2_with fail
      refine (CI.out _ T4.out).mono ?_
      rintro e w5 ⟨v, rfl, g5, c5, rfl, B5, hg5, hg5', hc5, hc5', L5⟩
      rw [Hn.out]
      have R5 := hide L5
      have S5 := hide (S4.out.below B5)
      have D5 := hide (D4.out.trans (B5.mono D4.out.size))
      clear L5 hc5 hc5' B5 hg5 hg5'
      go_wp2_with fail
      refine (same_any (some ⟨g1, 0, none⟩) (some ⟨g5, 0, none⟩) n c1 c5 ys w5 Hn.out (by have := Hy.out; have := Hn.out; omega) S5.out R5.out).mono ?_
      rintro e w' ⟨rfl, k3, rfl⟩
      have D6 := hide (bl_drewN D5.out k3)
      go_wp2_with (go_at_call 9; refine (CW.out _ D6.out).mono ?_; rintro e w7 ⟨rfl, hb7⟩)
      go_ret
      exact ⟨rfl, D6.out.trans (hb7.mono D6.out.size)⟩

theorem walk (a : Option Addr) (len cap : Nat) (zs : List Int) (w : World) (hR : ZRow w a len cap zs) (hL : laidMetH Tryd.prog Rows.utfWordsRow.laid w) (hsh : w.ShapedOpen Tryd.prog) :
    Calls Tryd.prog 6 #[.slice a len cap] w fun e w' => e = .returned (.bool true) ∧ Below w.heap.size w w' := by
  exact core a len cap zs w hR (glo_of hL)

set_option maxRecDepth 100000 in
theorem lifted (os : Os) (started : os.Started) (H : Type) (enc : TypeId × Value → H) (F : Stop.Interp) :
    ReturnsInHanded {} Tryd.checked os 6 .any ((OpenSpec.ofChange Rows.utfWordsSpec).preRow enc Tryd.prog Tryd.f6 Rows.utfWordsRow.domain false Rows.utfWordsRow.laid) (((OpenSpec.ofChange Rows.utfWordsSpec).at F).post enc Tryd.prog Tryd.f6 false true false false) := by
  refine returnsInHanded_of_row (C := Tryd.checked) (s := OpenSpec.ofChange Rows.utfWordsSpec) own started (by kernel_rfl) Tryd.func6 ?_ ?_
  · exact ChangeSpec.witness_shaped (enc := enc) (C := Tryd.checked) (os := os) (X := fun w _ => laidMetH Tryd.prog Rows.utfWordsRow.laid w) false (World.laidAll Tryd.prog os Rows.utfWordsRow.laid) #[.slice none 0 0] 8 (World.laidAll_os _ _ _)
      (World.shaped_of_ZipB (by kernel_rfl) (by kernel_rfl)) (by kernel_rfl) (by kernel_rfl) (by kernel_rfl)
      (by rw [MakeChecks.laidMetH_plain _ _ _ (by kernel_rfl)]; exact laidMet_laidAll _ (by kernel_rfl) (by kernel_rfl))
  intro W base args ds gs before hval0 hW _ _ _ hL hsh _
  have hval : ∀ (j : Nat) t v, Tryd.f6.params[j]? = some t → args[j]? = some v → Value.okWide Tryd.prog W .any base t v := hval0
  have hW' := hW
  obtain ⟨p, q, hA0, hV, rfl, hfz, hnd⟩ := hW
  have hA : DataW.TrodAll enc Tryd.prog W 0 (fun _ => true) true Tryd.f6.params.toList args.toList ds p := hA0
  rw [Tryd.params6] at hA hval
  obtain ⟨v0, vs0, d0, ds0, p0, q0, hargs, rfl, rfl, h0, r0⟩ := trodAll_cons hA
  obtain ⟨rfl, rfl, rfl⟩ := trodAll_nil r0
  obtain rfl : args = #[v0] := by cases args; simp_all
  obtain ⟨rfl, rfl⟩ := trodVars_none hV
  have k0 := h0
  have lt0 : ∀ x ∈ p0, x.block < W.heap.size := by obtain ⟨m, hm⟩ := k0; exact DataW.trod_lt m _ _ _ hm
  obtain ⟨a, len, cap, zs, rfl, hR⟩ := open_zs (hval 0 23 v0 rfl rfl) h0
  clear hA0 hval0
  refine (walk a len cap zs W hR hL hsh).mono fun e W' ⟨he, bel⟩ => ?_
  subst he
  exact ⟨_, rfl, _, _, _, [], _, [], hW', trodAll_mk1 (shut_bool Tryd.underlying4 _), (trodAll_cons_mk (Below.trod laidOut (by kernel_rfl) (of_decide_eq_true (by kernel_rfl)) k0 bel lt0) trodAll_mk0), rfl, bel.frame _, fun h => by cases h⟩

theorem said : Rows.UtfWordsSaid :=
  OpenClaim.holds_of_cond 6 Tryd.f6 rfl rfl rfl rfl rfl rfl rfl ⟨rfl, rfl, rfl, rfl, rfl⟩ rfl rfl rfl rfl rfl (by kernel_rfl) Tryd.func6 (by kernel_rfl)
    (of_decide_eq_true (by kernel_rfl)) (by unfold Func.isWrapper; first | (rw [if_pos (by decide +kernel)]; kernel_rfl) | (rw [if_neg (by decide +kernel)]; exact ⟨rfl, rfl⟩))
    (fun os started H enc _ F => by rw [OpenClaim.pre_eq_preRow]; exact lifted os started H enc F)

theorem plain (f : FuncId) (fn : Func) (hf : Tryd.pinned.checked.prog.funcNamed Tryd.f6.name = some f) (hfn : Tryd.pinned.checked.prog.funcs[f]? = some fn) :
    false = Tryd.pinned.checked.prog.looks [] ∧ ∀ (j : Nat) t, fn.params[j]? = some t → Tryd.pinned.checked.prog.wantsStandIn t = false := by
  obtain rfl : f = 6 := Option.some.inj ((show Tryd.prog.funcNamed Tryd.f6.name = some 6 by kernel_rfl).symm.trans hf) |>.symm
  obtain rfl : fn = Tryd.f6 := (Option.some.inj (Tryd.func6.symm.trans hfn)).symm
  refine ⟨by kernel_rfl, fun j t ht => ?_⟩
  rw [Tryd.params6] at ht
  have hm : t ∈ [23] := by simpa using Array.mem_of_getElem? ht
  have hall : ([23].all fun u => !Tryd.prog.wantsStandIn u) = true := by kernel_rfl
  exact (show Tryd.prog.wantsStandIn t = false by simpa using List.all_eq_true.1 hall t hm)

theorem proved : Rows.UtfWordsCardSaid :=
  Claim7.holds_tied_plain_at .later [] _ _ _ _ said (fun _ h => by cases h) (by kernel_rfl) (fun _ h => by cases h) utfWords_row_tie rfl ⟨rfl, rfl⟩ (by kernel_rfl) rfl plain (by kernel_rfl)
end Go.Proofs.YtncmkiejamkklaaDoor.utfWords
namespace Go.Proofs.YtncmkiejamkklaaDoor
theorem utfWords_holds : Rows.UtfWordsCardSaid := utfWords.proved
#print axioms utfWords_holds
end Go.Proofs.YtncmkiejamkklaaDoor
