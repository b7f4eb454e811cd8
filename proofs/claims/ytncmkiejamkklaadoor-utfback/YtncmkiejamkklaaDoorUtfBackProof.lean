/- Proved: for every list of ints and every string UtfBack returns true and leaves its arguments as they were (no condition but the card's own: Go's library's tables read as the program's text lays them). -/
import Derived.Test.YtncmkiejamkklaaDoorCards
import Derived.Test.YtncmkiejamkklaaDoorTie
import Derived.Lib.MinMax
import Derived.Test.YtncmkiejamkklaaDoorU4Wakes
import Derived.Test.YtncmkiejamkklaaDoorU4WideB
import Derived.Test.YtncmkiejamkklaaDoorU4NarB
import Derived.Test.YtncmkiejamkklaaDoorU4Back
import Derived.Test.YtncmkiejamkklaaDoorU4Glo
import Derived.Test.YtncmkiejamkklaaDoorU4Open
import Derived.WalkKit
import Derived.ProofKit
import Derived.OpenShut
import Derived.ShutString
import Derived.ChangeOld
import Derived.Below
import Derived.Deep.DeepHandedRow
import Derived.LaidLaws
import Derived.Lay
import Derived.MakeChecks
import Derived.SevenTiedAt
namespace Go.Proofs.YtncmkiejamkklaaDoor.utfBack
open Go.ChangeShapes Go.WideShapes Go.ChangeAt Go.RowKit
open Go.ChangeMaps (open_string shut_string)
set_option linter.unusedVariables false

theorem own : ownKnob Tryd.prog.godebug = none := by kernel_rfl
theorem laidOut : laidOutB Tryd.prog = true := by kernel_rfl

theorem long (a : Option Addr) (len cap : Nat) (s : ByteArray) (w : World) (hg : Glo w) (hs : ¬ s.size ≤ 65536) (hm : s.size ≤ maxLen) :
    Calls Tryd.prog 8 #[.slice a len cap, .string s] w fun e w' => e = .returned (.bool true) ∧ Below w.heap.size w w' := by
  have CW := hide (wakes_any w hg)
  have h1 : (65536 : Int) < (s.size : Int) := by omega
  have h2 : (s.size : Int) ≤ 9223372036854775807 := by unfold maxLen at hm; omega
  clear hg hs hm
  go_enter Tryd.func8, Tryd.ntmps8
  go_wp2_with (go_at_call 9; refine CW.out.mono ?_; rintro e w4 ⟨rfl, hb4⟩)
  go_ret
  exact ⟨rfl, hb4⟩
theorem small (l : List UInt8) (n : Nat) (h : l.length ≤ n) : (⟨l.toArray⟩ : ByteArray).size ≤ n := by rw [Lib.size_eq]; exact h
set_option maxRecDepth 100000 in
set_option maxHeartbeats 4000000 in
theorem core (a : Option Addr) (len cap : Nat) (zs : List Int) (s : ByteArray) (w : World) (hR : ZRow w a len cap zs) (hg : Glo w) (hs : s.size ≤ 65536) :
    Calls Tryd.prog 8 #[.slice a len cap, .string s] w fun e w' => e = .returned (.bool true) ∧ Below w.heap.size w w' := by
  obtain ⟨hl, hlc, hcm, hLst, _⟩ := hR
  obtain ⟨ys, hys⟩ : ∃ ys, zs.take 4096 = ys := ⟨_, rfl⟩
  have hyl : ys.length ≤ 4096 := by rw [← hys, List.length_take]; omega
  have CI := hide (fun (w' : World) (h : Lst w' a zs) => ints_any a len cap 4096 zs w' hl hlc hcm h (by omega) (by omega))
  rw [hys] at CI
  rw [show ((4096 : Nat) : Int) = 4096 from rfl] at CI
  obtain ⟨n, hn⟩ : ∃ n, ys.length = n := ⟨_, rfl⟩
  obtain ⟨S, hS⟩ : ∃ S, wrS e8 [] ys = S := ⟨_, rfl⟩
  obtain ⟨T, hT⟩ : ∃ T, wrS e16 [254, 255] ys = T := ⟨_, rfl⟩
  obtain ⟨E, hE⟩ : ∃ E, wrE ys = E := ⟨_, rfl⟩
  obtain ⟨⟨XS, P, F⟩, hX⟩ : ∃ R, rd st8 s.data.toList 0 = R := ⟨_, rfl⟩
  have hxn : XS.length ≤ 65536 := by
    have := rd_len st8 s.data.toList 0
    rw [hX, ← Lib.size_eq] at this
    exact Nat.le_trans this hs
  have C1 := hide (fun a cap w h => encode_core a n cap ys w hn (by omega) h S E hS hE)
  have C2 := hide (fun a cap w h => wide_core a n cap ys w hn (by omega) h T E hT hE)
  have C3 := hide (fun w' (h : Below w.heap.size w w') => decode_core s w' (hg.below h) hs XS P F hX)
  have CW := hide (fun w' (h : Below w.heap.size w w') => wakes_any w' (hg.below h))
  have way1 : (E = 0 ∧ rd st8 S 0 = (ys, 0, 0) ∧ S.length ≤ 20000 ∧ narV T = (ys, 0, 0) ∧ T.length ≤ 20000) ∨ E = 40 := by
    cases hall : ys.all isP
    · exact Or.inr (by rw [← hE]; exact wr_bad hall)
    · have l1 := (encs_len code8 ys).2
      have l2 := (encs_len code16 ys).2
      have e1 : S = encs e8 ys := by rw [← hS, (wr_ok hall).1]; rfl
      have e2 : T = [254, 255] ++ encs e16 ys := by rw [← hT, (wr_ok hall).1]
      refine Or.inl ⟨by rw [← hE]; exact (wr_ok (enc := e8) (pre := []) hall).2, by rw [e1]; exact rd_back code8 ys hall 0, by rw [e1]; omega, by rw [e2]; exact nar_back ys hall, by rw [e2, List.length_append]; simp; omega⟩
  have way2 : (F = 0 ∧ wrS e8 [] XS = s.data.toList ∧ wrE XS = 0) ∨ (F = 40 ∧ XS = [] ∧ P < s.size ∧ ∃ qs, rd st8 (s.data.toList.take P) 0 = (qs, 0, 0) ∧ qs.length ≤ P) := by
    rcases rd_fwd code8 _ _ _ _ hX with ⟨e0, e1, e2⟩ | ⟨e0, e1, e2, e3⟩
    · exact Or.inl ⟨e0, by rw [(wr_ok e2).1]; exact e1, (wr_ok (enc := e8) (pre := []) e2).2⟩
    · exact Or.inr ⟨e0, e1, by rw [Lib.size_eq]; exact e2, e3⟩
  have HG := hide hg
  have HL := hide hLst
  have Hn := hide hn
  have Hy := hide hyl
  have HXN := hide hxn
  have h1 : (s.size : Int) ≤ 65536 := by omega
  have HS := hide hs
  clear hLst hl hlc hcm hys hyl hn hg hS hE hT hX hs hxn
  rcases way1 with ⟨rfl, v1, v2, v3, v4⟩ | rfl
  · have C5 := hide (fun w' (h : Below w.heap.size w w') => decode_core ⟨S.toArray⟩ w' (HG.out.below h) (Nat.le_trans (small S _ v2) (by omega)) ys 0 0 v1)
    have C6 := hide (fun w' => nar_core ⟨T.toArray⟩ w' (Nat.le_trans (small T _ v4) (by omega)) (Nat.le_trans (small T _ v4) (by omega)) ys 0 0 v3)
    clear v1 v2 v3 v4
    rcases way2 with ⟨rfl, x1, x2⟩ | ⟨rfl, rfl, x2, qs, x3, x4⟩
    · skip
      have C7 := hide (fun a cap w h => encode_core a XS.length cap XS w rfl (by have := HXN.out; omega) h s.data.toList 0 x1 x2)
      rw [show (⟨s.data.toList.toArray⟩ : ByteArray) = s from rfl] at C7
      clear x1 x2
      go_enter Tryd.func8, Tryd.ntmps8
      go_wp2_with fail
      refine (CI.out _ HL.out).mono ?_
      rintro e w1 ⟨v, rfl, g1, c1, rfl, B1, hg1, hg1', hc1, hc1', L1⟩
      rw [Hn.out]
      have S1 := hide L1
      have D1 := hide B1
      clear L1 hc1 hc1' B1 hg1 hg1'
      go_wp2_with fail
      refine (C1.out _ _ _ S1.out).mono ?_
      rintro e w2 ⟨rfl, hb⟩
      have S2 := hide (S1.out.below hb)
      have D2 := hide (D1.out.trans (hb.mono D1.out.size))
      clear hb
      go_wp2_with fail
      refine (C2.out _ _ _ S2.out).mono ?_
      rintro e w3 ⟨rfl, hb⟩
      have S3 := hide (S2.out.below hb)
      have D3 := hide (D2.out.trans (hb.mono D2.out.size))
      clear hb
      go_wp2_with fail
      refine (C5.out _ D3.out).mono ?_
      rintro e w4 ⟨v, rfl, hr, hb⟩
      obtain ⟨a4, cap4, rfl, hL, hc1, hc2⟩ := hr.lst
      rw [Hn.out]
      have L4 := hide hL
      have S4 := hide (S3.out.below hb)
      have D4 := hide (D3.out.trans (hb.mono D3.out.size))
      clear hr hL hb hc1 hc2
      go_wp2_with fail
      refine (C6.out _).mono ?_
      rintro e w5 ⟨v, rfl, hr, hb⟩
      obtain ⟨a5, cap5, rfl, hL, hc1, hc2⟩ := hr.lst
      rw [Hn.out]
      have L5 := hide hL
      have L4' := hide (L4.out.below hb)
      have S5 := hide (S4.out.below hb)
      have D5 := hide (D4.out.trans (hb.mono D4.out.size))
      clear hr hL hb hc1 hc2
      go_wp2_with fail
      refine (same_any a4 (some ⟨g1, 0, none⟩) n cap4 c1 ys _ Hn.out (by have := Hy.out; have := Hn.out; omega) L4'.out S5.out).mono ?_
      rintro e w' ⟨rfl, j1, rfl⟩
      have L5' := hide (L5.out.drewN j1)
      have S6 := hide (S5.out.drewN j1)
      have D6 := hide (bl_drewN D5.out j1)
      go_wp2_with fail
      refine (same_any a5 (some ⟨g1, 0, none⟩) n cap5 c1 ys _ Hn.out (by have := Hy.out; have := Hn.out; omega) L5'.out S6.out).mono ?_
      rintro e w' ⟨rfl, j2, rfl⟩
      have D7 := hide (show Below w.heap.size w (w5.drewN (j1 + j2)) from bl_drewN D5.out (j1 + j2))
      go_wp2_with fail
      refine (C3.out _ D7.out).mono ?_
      rintro e w8 ⟨v, rfl, hr, hb⟩
      obtain ⟨a8, cap8, rfl, hL, hc1, hc2⟩ := hr.lst
      have L8 := hide hL
      have D8 := hide (D7.out.trans (hb.mono D7.out.size))
      clear hr hL hb hc1 hc2
      go_wp2_with fail
      refine (C7.out _ _ _ L8.out).mono ?_
      rintro e w9 ⟨rfl, hb⟩
      have D9 := hide (D8.out.trans (hb.mono D8.out.size))
      clear hb
      go_wp2_with (go_at_call 9; refine (CW.out _ D9.out).mono ?_; rintro e wz ⟨rfl, hbz⟩)
      go_ret
      exact ⟨rfl, D9.out.trans (hbz.mono D9.out.size)⟩
    · skip
      have hx : (s.extract 0 P).data.toList = s.data.toList.take P := by rw [Lib.extract_data, List.drop_zero, Nat.sub_zero]
      have C8 := hide (fun w' (h : Below w.heap.size w w') => decode_core (s.extract 0 P) w' (HG.out.below h) (by rw [Lib.size_eq, hx, List.length_take, ← Lib.size_eq]; have := HS.out; omega) qs 0 0 (by rw [hx]; exact x3))
      have p1 : (P : Int) < (s.size : Int) := by omega
      have m1 : min (P : Int) (s.size : Int) = (P : Int) := by omega
      have m2 : max (0 : Int) (P : Int) = (P : Int) := by omega
      have p2 : (qs.length : Int) ≤ (P : Int) := by omega
      clear hx x2 x3 x4
      go_enter Tryd.func8, Tryd.ntmps8
      go_wp2_with fail
      refine (CI.out _ HL.out).mono ?_
      rintro e w1 ⟨v, rfl, g1, c1, rfl, B1, hg1, hg1', hc1, hc1', L1⟩
      rw [Hn.out]
      have S1 := hide L1
      have D1 := hide B1
      clear L1 hc1 hc1' B1 hg1 hg1'
      go_wp2_with fail
      refine (C1.out _ _ _ S1.out).mono ?_
      rintro e w2 ⟨rfl, hb⟩
      have S2 := hide (S1.out.below hb)
      have D2 := hide (D1.out.trans (hb.mono D1.out.size))
      clear hb
      go_wp2_with fail
      refine (C2.out _ _ _ S2.out).mono ?_
      rintro e w3 ⟨rfl, hb⟩
      have S3 := hide (S2.out.below hb)
      have D3 := hide (D2.out.trans (hb.mono D2.out.size))
      clear hb
      go_wp2_with fail
      refine (C5.out _ D3.out).mono ?_
      rintro e w4 ⟨v, rfl, hr, hb⟩
      obtain ⟨a4, cap4, rfl, hL, hc1, hc2⟩ := hr.lst
      rw [Hn.out]
      have L4 := hide hL
      have S4 := hide (S3.out.below hb)
      have D4 := hide (D3.out.trans (hb.mono D3.out.size))
      clear hr hL hb hc1 hc2
      go_wp2_with fail
      refine (C6.out _).mono ?_
      rintro e w5 ⟨v, rfl, hr, hb⟩
      obtain ⟨a5, cap5, rfl, hL, hc1, hc2⟩ := hr.lst
      rw [Hn.out]
      have L5 := hide hL
      have L4' := hide (L4.out.below hb)
      have S5 := hide (S4.out.below hb)
      have D5 := hide (D4.out.trans (hb.mono D4.out.size))
      clear hr hL hb hc1 hc2
      go_wp2_with fail
      refine (same_any a4 (some ⟨g1, 0, none⟩) n cap4 c1 ys _ Hn.out (by have := Hy.out; have := Hn.out; omega) L4'.out S5.out).mono ?_
      rintro e w' ⟨rfl, j1, rfl⟩
      have L5' := hide (L5.out.drewN j1)
      have S6 := hide (S5.out.drewN j1)
      have D6 := hide (bl_drewN D5.out j1)
      go_wp2_with fail
      refine (same_any a5 (some ⟨g1, 0, none⟩) n cap5 c1 ys _ Hn.out (by have := Hy.out; have := Hn.out; omega) L5'.out S6.out).mono ?_
      rintro e w' ⟨rfl, j2, rfl⟩
      have D7 := hide (show Below w.heap.size w (w5.drewN (j1 + j2)) from bl_drewN D5.out (j1 + j2))
      go_wp2_with fail
      refine (C3.out _ D7.out).mono ?_
      rintro e w8 ⟨v, rfl, hr, hb⟩
      obtain ⟨a8, cap8, rfl, hL, hc1, hc2⟩ := hr.lst
      rw [List.length_nil]
      have D8 := hide (D7.out.trans (hb.mono D7.out.size))
      clear hr hL hb hc1 hc2
      go_wp2_with fail
      refine (C8.out _ D8.out).mono ?_
      rintro e w9 ⟨v, rfl, hr, hb⟩
      obtain ⟨a9, cap9, rfl, hL, hc1, hc2⟩ := hr.lst
      have D9 := hide (D8.out.trans (hb.mono D8.out.size))
      clear hr hL hb hc1 hc2
      go_wp2_with (go_at_call 9; refine (CW.out _ D9.out).mono ?_; rintro e wz ⟨rfl, hbz⟩)
      go_ret
      exact ⟨rfl, D9.out.trans (hbz.mono D9.out.size)⟩
  · rcases way2 with ⟨rfl, x1, x2⟩ | ⟨rfl, rfl, x2, qs, x3, x4⟩
    · skip
      have C7 := hide (fun a cap w h => encode_core a XS.length cap XS w rfl (by have := HXN.out; omega) h s.data.toList 0 x1 x2)
      rw [show (⟨s.data.toList.toArray⟩ : ByteArray) = s from rfl] at C7
      clear x1 x2
      go_enter Tryd.func8, Tryd.ntmps8
      go_wp2_with fail
      refine (CI.out _ HL.out).mono ?_
      rintro e w1 ⟨v, rfl, g1, c1, rfl, B1, hg1, hg1', hc1, hc1', L1⟩
      rw [Hn.out]
      have S1 := hide L1
      have D1 := hide B1
      clear L1 hc1 hc1' B1 hg1 hg1'
      go_wp2_with fail
      refine (C1.out _ _ _ S1.out).mono ?_
      rintro e w2 ⟨rfl, hb⟩
      have S2 := hide (S1.out.below hb)
      have D2 := hide (D1.out.trans (hb.mono D1.out.size))
      clear hb
      go_wp2_with fail
      refine (C2.out _ _ _ S2.out).mono ?_
      rintro e w3 ⟨rfl, hb⟩
      have S3 := hide (S2.out.below hb)
      have D3 := hide (D2.out.trans (hb.mono D2.out.size))
      clear hb
      have D7 := D3
      go_wp2_with fail
      refine (C3.out _ D7.out).mono ?_
      rintro e w8 ⟨v, rfl, hr, hb⟩
      obtain ⟨a8, cap8, rfl, hL, hc1, hc2⟩ := hr.lst
      have L8 := hide hL
      have D8 := hide (D7.out.trans (hb.mono D7.out.size))
      clear hr hL hb hc1 hc2
      go_wp2_with fail
      refine (C7.out _ _ _ L8.out).mono ?_
      rintro e w9 ⟨rfl, hb⟩
      have D9 := hide (D8.out.trans (hb.mono D8.out.size))
      clear hb
      go_wp2_with (go_at_call 9; refine (CW.out _ D9.out).mono ?_; rintro e wz ⟨rfl, hbz⟩)
      go_ret
      exact ⟨rfl, D9.out.trans (hbz.mono D9.out.size)⟩
    · skip
      have hx : (s.extract 0 P).data.toList = s.data.toList.take P := by rw [Lib.extract_data, List.drop_zero, Nat.sub_zero]
      have C8 := hide (fun w' (h : Below w.heap.size w w') => decode_core (s.extract 0 P) w' (HG.out.below h) (by rw [Lib.size_eq, hx, List.length_take, ← Lib.size_eq]; have := HS.out; omega) qs 0 0 (by rw [hx]; exact x3))
      have p1 : (P : Int) < (s.size : Int) := by omega
      have m1 : min (P : Int) (s.size : Int) = (P : Int) := by omega
      have m2 : max (0 : Int) (P : Int) = (P : Int) := by omega
      have p2 : (qs.length : Int) ≤ (P : Int) := by omega
      clear hx x2 x3 x4
      go_enter Tryd.func8, Tryd.ntmps8
      go_wp2_with fail
      refine (CI.out _ HL.out).mono ?_
      rintro e w1 ⟨v, rfl, g1, c1, rfl, B1, hg1, hg1', hc1, hc1', L1⟩
      rw [Hn.out]
      have S1 := hide L1
      have D1 := hide B1
      clear L1 hc1 hc1' B1 hg1 hg1'
      go_wp2_with fail
      refine (C1.out _ _ _ S1.out).mono ?_
      rintro e w2 ⟨rfl, hb⟩
      have S2 := hide (S1.out.below hb)
      have D2 := hide (D1.out.trans (hb.mono D1.out.size))
      clear hb
      go_wp2_with fail
      refine (C2.out _ _ _ S2.out).mono ?_
      rintro e w3 ⟨rfl, hb⟩
      have S3 := hide (S2.out.below hb)
      have D3 := hide (D2.out.trans (hb.mono D2.out.size))
      clear hb
      have D7 := D3
      go_wp2_with fail
      refine (C3.out _ D7.out).mono ?_
      rintro e w8 ⟨v, rfl, hr, hb⟩
      obtain ⟨a8, cap8, rfl, hL, hc1, hc2⟩ := hr.lst
      rw [List.length_nil]
      have D8 := hide (D7.out.trans (hb.mono D7.out.size))
      clear hr hL hb hc1 hc2
      go_wp2_with fail
      refine (C8.out _ D8.out).mono ?_
      rintro e w9 ⟨v, rfl, hr, hb⟩
      obtain ⟨a9, cap9, rfl, hL, hc1, hc2⟩ := hr.lst
      have D9 := hide (D8.out.trans (hb.mono D8.out.size))
      clear hr hL hb hc1 hc2
      go_wp2_with (go_at_call 9; refine (CW.out _ D9.out).mono ?_; rintro e wz ⟨rfl, hbz⟩)
      go_ret
      exact ⟨rfl, D9.out.trans (hbz.mono D9.out.size)⟩

theorem walk (a : Option Addr) (len cap : Nat) (zs : List Int) (a1 : ByteArray) (w : World) (hR : ZRow w a len cap zs) (w1 : a1.size ≤ maxLen) (hL : laidMetH Tryd.prog Rows.utfBackRow.laid w) (hsh : w.ShapedOpen Tryd.prog) :
    Calls Tryd.prog 8 #[.slice a len cap, .string a1] w fun e w' => e = .returned (.bool true) ∧ Below w.heap.size w w' := by
  by_cases hs : a1.size ≤ 65536
  · exact core a len cap zs a1 w hR (glo_of hL) hs
  · exact long a len cap a1 w (glo_of hL) hs w1

set_option maxRecDepth 100000 in
theorem lifted (os : Os) (started : os.Started) (H : Type) (enc : TypeId × Value → H) (F : Stop.Interp) :
    ReturnsInHanded {} Tryd.checked os 8 .any ((OpenSpec.ofChange Rows.utfBackSpec).preRow enc Tryd.prog Tryd.f8 Rows.utfBackRow.domain false Rows.utfBackRow.laid) (((OpenSpec.ofChange Rows.utfBackSpec).at F).post enc Tryd.prog Tryd.f8 false true false false) := by
  refine returnsInHanded_of_row (C := Tryd.checked) (s := OpenSpec.ofChange Rows.utfBackSpec) own started (by kernel_rfl) Tryd.func8 ?_ ?_
  · exact ChangeSpec.witness_shaped (enc := enc) (C := Tryd.checked) (os := os) (X := fun w _ => laidMetH Tryd.prog Rows.utfBackRow.laid w) false (World.laidAll Tryd.prog os Rows.utfBackRow.laid) #[.slice none 0 0, .string ByteArray.empty] 8 (World.laidAll_os _ _ _)
      (World.shaped_of_ZipB (by kernel_rfl) (by kernel_rfl)) (by kernel_rfl) (by kernel_rfl) (by kernel_rfl)
      (by rw [MakeChecks.laidMetH_plain _ _ _ (by kernel_rfl)]; exact laidMet_laidAll _ (by kernel_rfl) (by kernel_rfl))
  intro W base args ds gs before hval0 hW _ _ _ hL hsh _
  have hval : ∀ (j : Nat) t v, Tryd.f8.params[j]? = some t → args[j]? = some v → Value.okWide Tryd.prog W .any base t v := hval0
  have hW' := hW
  obtain ⟨p, q, hA0, hV, rfl, hfz, hnd⟩ := hW
  have hA : DataW.TrodAll enc Tryd.prog W 0 (fun _ => true) true Tryd.f8.params.toList args.toList ds p := hA0
  rw [Tryd.params8] at hA hval
  obtain ⟨v0, vs0, d0, ds0, p0, q0, hargs, rfl, rfl, h0, r0⟩ := trodAll_cons hA
  obtain ⟨v1, vs1, d1, ds1, p1, q1, rfl, rfl, rfl, h1, r1⟩ := trodAll_cons r0
  obtain ⟨rfl, rfl, rfl⟩ := trodAll_nil r1
  obtain rfl : args = #[v0, v1] := by cases args; simp_all
  obtain ⟨rfl, rfl⟩ := trodVars_none hV
  have k0 := h0
  have lt0 : ∀ x ∈ p0, x.block < W.heap.size := by obtain ⟨m, hm⟩ := k0; exact DataW.trod_lt m _ _ _ hm
  obtain ⟨a, len, cap, zs, rfl, hR⟩ := open_zs (hval 0 23 v0 rfl rfl) h0
  obtain ⟨a1, rfl, rfl, rfl, w1⟩ := open_string Tryd.underlying9 (hval 1 9 v1 rfl rfl) h1
  clear hA0 hval0
  refine (walk a len cap zs a1 W hR w1 hL hsh).mono fun e W' ⟨he, bel⟩ => ?_
  subst he
  exact ⟨_, rfl, _, _, _, [], _, [], hW', trodAll_mk1 (shut_bool Tryd.underlying4 _), (trodAll_cons_mk (Below.trod laidOut (by kernel_rfl) (of_decide_eq_true (by kernel_rfl)) k0 bel lt0) (trodAll_cons_mk (shut_string Tryd.underlying9 w1) trodAll_mk0)), rfl, bel.frame _, fun h => by cases h⟩

theorem said : Rows.UtfBackSaid :=
  OpenClaim.holds_of_cond 8 Tryd.f8 rfl rfl rfl rfl rfl rfl rfl ⟨rfl, rfl, rfl, rfl, rfl⟩ rfl rfl rfl rfl rfl (by kernel_rfl) Tryd.func8 (by kernel_rfl)
    (of_decide_eq_true (by kernel_rfl)) (by unfold Func.isWrapper; first | (rw [if_pos (by decide +kernel)]; kernel_rfl) | (rw [if_neg (by decide +kernel)]; exact ⟨rfl, rfl⟩))
    (fun os started H enc _ F => by rw [OpenClaim.pre_eq_preRow]; exact lifted os started H enc F)

theorem plain (f : FuncId) (fn : Func) (hf : Tryd.pinned.checked.prog.funcNamed Tryd.f8.name = some f) (hfn : Tryd.pinned.checked.prog.funcs[f]? = some fn) :
    false = Tryd.pinned.checked.prog.looks [] ∧ ∀ (j : Nat) t, fn.params[j]? = some t → Tryd.pinned.checked.prog.wantsStandIn t = false := by
  obtain rfl : f = 8 := Option.some.inj ((show Tryd.prog.funcNamed Tryd.f8.name = some 8 by kernel_rfl).symm.trans hf) |>.symm
  obtain rfl : fn = Tryd.f8 := (Option.some.inj (Tryd.func8.symm.trans hfn)).symm
  refine ⟨by kernel_rfl, fun j t ht => ?_⟩
  rw [Tryd.params8] at ht
  have hm : t ∈ [23, 9] := by simpa using Array.mem_of_getElem? ht
  have hall : ([23, 9].all fun u => !Tryd.prog.wantsStandIn u) = true := by kernel_rfl
  exact (show Tryd.prog.wantsStandIn t = false by simpa using List.all_eq_true.1 hall t hm)

theorem proved : Rows.UtfBackCardSaid :=
  Claim7.holds_tied_plain_at .later [] _ _ _ _ said (fun _ h => by cases h) (by kernel_rfl) (fun _ h => by cases h) utfBack_row_tie rfl ⟨rfl, rfl⟩ (by kernel_rfl) rfl plain (by kernel_rfl)
end Go.Proofs.YtncmkiejamkklaaDoor.utfBack
namespace Go.Proofs.YtncmkiejamkklaaDoor
theorem utfBack_holds : Rows.UtfBackCardSaid := utfBack.proved
#print axioms utfBack_holds
end Go.Proofs.YtncmkiejamkklaaDoor
