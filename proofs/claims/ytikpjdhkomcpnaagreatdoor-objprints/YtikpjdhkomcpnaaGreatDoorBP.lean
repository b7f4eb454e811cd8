/-
  Joined: O5LPr.
-/
import Derived.Test.YtikpjdhkomcpnaaGreatDoorBF
import Derived.Test.YtikpjdhkomcpnaaGreatDoorBD
/-
  The law ObjPrints, walked: of any object that lies.
-/
namespace Go.Proofs.YtikpjdhkomcpnaaGreatDoor
open Go.RowKit Go.Deep

theorem prV_form (p : Pay) (T : BT Pay) : ∃ (S : ByteArray) (E : Int), prV p T = .tuple #[.string S, .int .i64 E] := by
  unfold prV
  split
  · split
    · exact ⟨_, _, rfl⟩
    · exact ⟨_, _, rfl⟩
  · exact ⟨_, _, rfl⟩
set_option maxRecDepth 8000 in
set_option maxHeartbeats 1000000 in
theorem objPrints_walk (p : Pay) (T : BT Pay) (ka : Option Addr) (kc : Nat) (ia : Option Addr) (ic : Nat) (w : World) (hp : OIn w p T ka kc ia ic) (hg : D2.Glo w) :
    Calls Tryz.prog 3 #[ov p ka kc ia (flen T) ic] w fun e w' => e = .returned (.bool true) ∧ Below w.heap.size w w' := by
  have hb0 : Below w.heap.size w (w.alloc (.cells (obox p ka kc ia (flen T) ic) 25)) := (Below.refl _ _).alloc (Nat.le_refl _) _
  have HA := hide (six_box w p ka kc ia (flen T) ic 25)
  have hz : w.heap.size < (w.alloc (.cells (obox p ka kc ia (flen T) ic) 25)).heap.size := by simp
  have HP := hide hp
  have HB := hide hb0
  have HG := hide hg
  have CW := hide wakes_any
  have CL := hide (large_any p T ka kc ia ic _ (hp.below hb0))
  have CC := hide (fun x h => rcopy_any p T ka kc ia ic x (OIn.below (w := w) (w' := x) h hp))
  obtain ⟨S, E, hpr⟩ := prV_form p T
  have CR := hide (fun x h => rprint_any p T ka kc ia ic x (OIn.below (w := w) (w' := x) h hp))
  rw [hpr] at CR
  have HPR := hide hpr
  clear hp hb0 hg hpr
  go_enter Tryz.func3, Tryz.ntmps3
  go_wp2_with fail
  refine CL.out.mono ?_
  rintro e w1 ⟨⟨r, rfl⟩, h1⟩
  have H1 := hide (below_t5 HB.out h1)
  have hz1 : w.heap.size < w1.heap.size := Nat.lt_of_lt_of_le hz h1.size
  have HA1 := hide (HA.out.below hz h1)
  obtain ⟨s0, s1, s2, s3, s4, s5⟩ := HA1.out
  simp only [Nat.zero_add] at s1 s2 s3 s4 s5
  clear h1 HA HB hz CL
  cases r
  case true =>
    go_wp2_with fail
    refine (CW.out _).mono ?_
    rintro e w2 ⟨rfl, h2⟩
    go_wp2_with fail
    go_ret
    exact ⟨rfl, below_t5 H1.out h2⟩
  go_wp2_with fail
  refine (CC.out _ H1.out).mono ?_
  rintro e w2 ⟨⟨kb, kd, ib, id, rfl, hin2⟩, h2⟩
  have hin3 : OIn w2 p T kb kd ib id := hin2.sub (fresh_sub _ _)
  have H2 := hide (below_t5 H1.out h2)
  have hz2 : w.heap.size < w2.heap.size := Nat.lt_of_lt_of_le hz1 h2.size
  have hb3 : Below w2.heap.size w2 (w2.alloc (.cells (obox p kb kd ib (flen T) id) 25)) := (Below.refl _ _).alloc (Nat.le_refl _) _
  have HA3 := hide ((HA1.out.below hz1 h2).below hz2 hb3)
  have HC3 := hide (six_box w2 p kb kd ib (flen T) id 25)
  have H3 := hide (below_t5 H2.out hb3)
  have HI := hide hin3
  have hz3 : w2.heap.size < (w2.alloc (.cells (obox p kb kd ib (flen T) id) 25)).heap.size := by simp
  have CP := hide (oprint_any p T kb kd ib id _ (hin3.below hb3) (HG.out.below H3.out))
  rw [HPR.out] at CP
  have HB3 := hide hb3
  clear h2 hin2 hin3 hb3 s0 s1 s2 s3 s4 s5 HA1 H1 hz1 HPR CC
  go_wp2_with fail
  refine CP.out.mono ?_
  rintro e w4 ⟨rfl, h4⟩
  have H4 := hide (below_t5 H3.out h4)
  have HA4 := hide (HA3.out.below (Nat.lt_trans hz2 hz3) h4)
  have HC4 := hide (HC3.out.below hz3 h4)
  have hz4 : w2.heap.size < w4.heap.size := Nat.lt_of_lt_of_le hz3 h4.size
  have HI4 := hide ((HI.out.below HB3.out).below h4)
  obtain ⟨s0, s1, s2, s3, s4, s5⟩ := HA4.out
  simp only [Nat.zero_add] at s1 s2 s3 s4 s5
  clear h4 HA3 HC3 H3 hz3 CP HI HB3
  go_wp2_with fail
  refine (CR.out _ H4.out).mono ?_
  rintro e w5 ⟨rfl, h5⟩
  have H5 := hide (below_t5 H4.out h5)
  obtain ⟨t0, t1, t2, t3, t4, t5⟩ := HA4.out.below (Nat.lt_trans hz2 hz4) h5
  obtain ⟨v0, v1, v2, v3, v4, v5⟩ := HC4.out.below hz4 h5
  simp only [Nat.zero_add] at t1 t2 t3 t4 t5 v1 v2 v3 v4 v5
  have CS := hide (rsame_any p p T T kb ka kd kc ib ia id ic w5 (HI4.out.below h5) (HP.out.below H5.out))
  rw [sameV_refl] at CS
  clear h5 HA4 HC4 H4 s0 s1 s2 s3 s4 s5 CR HI4 HG
  go_wp2_with (first
    | (go_at_call 13; refine CS.out.mono ?_; rintro e w6 ⟨rfl, h6⟩; have H6 := hide (below_t5 H5.out h6); clear h6)
    | (go_at_call 9; refine (CW.out _).mono ?_; rintro e w7 ⟨rfl, h7⟩; have H7 := hide (below_t5 H6.out h7); clear h7))
  go_ret
  exact ⟨rfl, H7.out⟩
end Go.Proofs.YtikpjdhkomcpnaaGreatDoor
