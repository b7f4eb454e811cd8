/-
  The law ObjGets, walked: of any object that lies, any key.
-/
import Derived.Test.YtcgoklacjniemaaGreatDoorO5Wak
import Derived.Test.YtcgoklacjniemaaGreatDoorO5Lrg
import Derived.Test.YtcgoklacjniemaaGreatDoorO5Get
import Derived.Test.YtcgoklacjniemaaGreatDoorO5Same
namespace Go.Proofs.YtcgoklacjniemaaGreatDoor
open Go.RowKit Go.Deep

theorem eqS_refl (a : ByteArray) : eqS a a = true := by unfold eqS; simp
theorem keysEq_refl : ∀ l : List ByteArray, keysEq l l = true
  | [] => rfl
  | a :: l => by rw [keysEq, eqS_refl, keysEq_refl l]; rfl
theorem payEq_refl (p : Pay) : payEq p p = true := by unfold payEq; rw [eqS_refl, keysEq_refl]; simp
theorem sameF_refl : ∀ T : BT Pay, sameF T T = true
  | .nil => rfl
  | .node _ _ p T N => by rw [sameF, payEq_refl, sameF_refl T, sameF_refl N]; rfl
theorem sameV_refl (p : Pay) (T : BT Pay) : sameV p T p T = true := by unfold sameV; rw [payEq_refl, sameF_refl]; rfl
theorem Got.form {w : World} {R : Option (Pay × BT Pay)} {e : Ending} (h : Got w R e) : ∃ ka kc ia ic, e = .returned (.tuple #[ov (R.getD (zpay, .nil)).1 ka kc ia (flen (R.getD (zpay, .nil)).2) ic, .bool R.isSome]) ∧ OIn w (R.getD (zpay, .nil)).1 (R.getD (zpay, .nil)).2 ka kc ia ic := by
  cases R with
  | none => exact ⟨none, 0, none, 0, h, zin w⟩
  | some r =>
    obtain ⟨q, U⟩ := r
    exact h
theorem rsame_any (p q : Pay) (T U : BT Pay) (ka kb : Option Addr) (kc kd : Nat) (ia ib : Option Addr) (ic id : Nat) (w : World) (hp : OIn w p T ka kc ia ic) (hq : OIn w q U kb kd ib id) :
    Calls Tryz.prog 15 #[ov p ka kc ia (flen T) ic, ov q kb kd ib (flen U) id] w fun e w' => e = .returned (.bool (sameV p T q U)) ∧ Below w.heap.size w w' :=
  same_core _ p q T U ka kb kc kd ia ib ic id w (Nat.lt_succ_self _) hp hq
set_option maxRecDepth 8000 in
set_option maxHeartbeats 4000000 in
theorem objGets_walk (p : Pay) (T : BT Pay) (ka : Option Addr) (kc : Nat) (ia : Option Addr) (ic : Nat) (x : ByteArray) (w : World) (hin : OIn w p T ka kc ia ic) :
    Calls Tryz.prog 4 #[ov p ka kc ia (flen T) ic, .string x] w fun e w' => e = .returned (.bool true) ∧ Below w.heap.size w w' := by
  have HB := hide ((Below.refl w.heap.size w).alloc (Nat.le_refl _) (.cells (obox p ka kc ia (flen T) ic) 25))
  have HS := hide (six_box w p ka kc ia (flen T) ic 25)
  have hz : w.heap.size < (w.alloc (.cells (obox p ka kc ia (flen T) ic) 25)).heap.size := by simp
  have HI := hide hin
  have CW := hide wakes_any
  have CL := hide (large_any p T ka kc ia ic _ (hin.below HB.out))
  clear hin
  go_enter Tryz.func4, Tryz.ntmps4
  go_wp2_with fail
  refine CL.out.mono ?_
  rintro e w1 ⟨⟨r, rfl⟩, h1⟩
  have H1 := hide (below_t5 HB.out h1)
  have hz1 : w.heap.size < w1.heap.size := Nat.lt_of_lt_of_le hz h1.size
  have HS1 := hide (HS.out.below hz h1)
  obtain ⟨s0, s1, s2, s3, s4, s5⟩ := HS1.out
  simp only [Nat.zero_add] at s1 s2 s3 s4 s5
  clear h1 HS HB hz CL
  cases r
  case true =>
    go_wp2_with fail
    refine (CW.out _).mono ?_
    rintro e w2 ⟨rfl, h2⟩
    go_wp2_with fail
    go_ret
    exact ⟨rfl, below_t5 H1.out h2⟩
  go_wp2_with fail
  refine (rcopy_any p T ka kc ia ic w1 (HI.out.below H1.out)).mono ?_
  rintro e w2 ⟨⟨ka2, kc2, ia2, ic2, rfl, hin2⟩, h2⟩
  have H2 := hide (below_t5 H1.out h2)
  have hz2 : w.heap.size < w2.heap.size := Nat.lt_of_lt_of_le hz1 h2.size
  have HS2 := hide (HS1.out.below hz1 h2)
  have HI2 := hide (hin2.sub (fresh_sub _ _))
  clear s0 s1 s2 s3 s4 s5 h2 hin2 HS1 H1 hz1
  go_wp2_with fail
  refine (get_any p T ka2 kc2 ia2 ic2 x w2 HI2.out).mono ?_
  rintro e w3 ⟨hg, h3⟩
  obtain ⟨ka3, kc3, ia3, ic3, rfl, hin3⟩ := hg.form
  have CR := hide (fun w' h => rget_any p T ka kc ia ic x w' (OIn.below (w := w) (w' := w') h HI.out))
  have HF : Hid (∀ {w : World} {e : Ending}, Got w (getV p T x) e → ∃ ka kc ia ic, e = .returned (.tuple #[ov ((getV p T x).getD (zpay, .nil)).1 ka kc ia (flen ((getV p T x).getD (zpay, .nil)).2) ic, .bool (getV p T x).isSome]) ∧ OIn w ((getV p T x).getD (zpay, .nil)).1 ((getV p T x).getD (zpay, .nil)).2 ka kc ia ic) := hide Got.form
  generalize getV p T x = G at CR HF hin3 ⊢
  generalize (G.getD (zpay, .nil)).1 = q at HF hin3 ⊢
  generalize (G.getD (zpay, .nil)).2 = U at HF hin3 ⊢
  generalize G.isSome = b at HF ⊢
  have H3 := hide (below_t5 H2.out h3)
  have hz3 : w.heap.size < w3.heap.size := Nat.lt_of_lt_of_le hz2 h3.size
  have HS3 := hide (HS2.out.below hz2 h3)
  obtain ⟨s0, s1, s2, s3, s4, s5⟩ := HS3.out
  simp only [Nat.zero_add] at s1 s2 s3 s4 s5
  have HI3 := hide hin3
  clear h3 hin3 hg HS2 H2 hz2
  go_wp2_with fail
  have HA := hide (H3.out.alloc H3.out.size (.cells (obox q ka3 kc3 ia3 (flen U) ic3) 25))
  have HK := hide (Blk.new w3 (obox q ka3 kc3 ia3 (flen U) ic3) 25)
  have HI3 := hide (HI3.out.below ((Below.refl w3.heap.size w3).alloc (Nat.le_refl _) (.cells (obox q ka3 kc3 ia3 (flen U) ic3) 25)))
  obtain ⟨X, hX⟩ : ∃ X, w3.heap.size = X := ⟨_, rfl⟩
  rw [hX] at HK ⊢
  generalize w3.alloc (.cells (obox q ka3 kc3 ia3 (flen U) ic3) 25) = w4 at HA HK HI3 ⊢
  clear s0 s1 s2 s3 s4 s5 hX HS3 H3
  refine (CR.out _ HA.out).mono ?_
  rintro e w5 ⟨hg5, h5⟩
  obtain ⟨ka5, kc5, ia5, ic5, rfl, hin5⟩ := HF.out hg5
  have H5 := hide (below_t5 HA.out h5)
  have HK5 := hide (HK.out.below h5)
  have HI35 := hide (HI3.out.below h5)
  have HI5 := hide hin5
  have hX5 : X < w5.heap.size := HK5.out.lt
  obtain ⟨⟨q0, q1, q2, q3, q4, q5⟩, _⟩ := HK5.out.six
  clear hg5 h5 hin5 HK HI3 HA CR HF
  go_wp2_with fail
  have HA := hide (H5.out.alloc H5.out.size (.cells (obox q ka5 kc5 ia5 (flen U) ic5) 25))
  have CS := hide (rsame_any q q U U ka3 ka5 kc3 kc5 ia3 ia5 ic3 ic5 _ (HI35.out.below ((Below.refl w5.heap.size w5).alloc (Nat.le_refl _) (.cells (obox q ka5 kc5 ia5 (flen U) ic5) 25))) (HI5.out.below ((Below.refl w5.heap.size w5).alloc (Nat.le_refl _) (.cells (obox q ka5 kc5 ia5 (flen U) ic5) 25))))
  rw [sameV_refl] at CS
  refine CS.out.mono ?_
  rintro e w6 ⟨rfl, h6⟩
  have H6 := hide (below_t5 HA.out h6)
  clear h6 q0 q1 q2 q3 q4 q5
  go_wp2_with fail
  refine (CW.out _).mono ?_
  rintro e w7 ⟨rfl, h7⟩
  go_wp2_with fail
  go_ret
  exact ⟨rfl, below_t5 H6.out h7⟩
end Go.Proofs.YtcgoklacjniemaaGreatDoor
