/-
  The law ObjGoods, walked: of any two objects that lie.
-/
import Derived.Test.YtcgoklacjniemaaGreatDoorO5LGet
import Derived.Test.YtcgoklacjniemaaGreatDoorO5FlatC
import Derived.Deep.RegionWith
namespace Go.Proofs.YtcgoklacjniemaaGreatDoor
open Go.RowKit Go.Deep

/- a value that is an object: it lies -/
inductive CopyOf (p : Pay) (T : BT Pay) (v : Value) (x : World) : Prop where
  | mk (ka : Option Addr) (kc : Nat) (ia : Option Addr) (ic : Nat) (hv : v = ov p ka kc ia (flen T) ic) (hin : OIn x p T ka kc ia ic) : CopyOf p T v x
theorem CopyOf.below {p : Pay} {T : BT Pay} {v : Value} {x y : World} (h : CopyOf p T v x) (hb : Below x.heap.size x y) : CopyOf p T v y := by
  obtain ⟨ka, kc, ia, ic, rfl, hin⟩ := h
  exact ⟨ka, kc, ia, ic, rfl, hin.below hb⟩
theorem copy_of {p : Pay} {T : BT Pay} {v : Value} {x : World} (h : CopyOf p T v x) : Calls Tryz.prog 12 #[v] x fun e w' => ∃ v', e = .returned v' ∧ CopyOf p T v' w' ∧ Below x.heap.size x w' := by
  obtain ⟨ka, kc, ia, ic, rfl, hin⟩ := h
  refine (rcopy_any p T ka kc ia ic x hin).mono ?_
  rintro e w' ⟨⟨ka2, kc2, ia2, ic2, rfl, h2⟩, hb⟩
  exact ⟨_, rfl, ⟨ka2, kc2, ia2, ic2, rfl, h2.sub (fresh_sub _ _)⟩, hb⟩
theorem good_of {p : Pay} {T : BT Pay} {v : Value} {x : World} (h : CopyOf p T v x) : Calls Tryz.prog 11 #[v] x fun e w' => e = .returned (.bool (decide (0 < goodV p T 0 0))) ∧ Below x.heap.size x w' := by
  obtain ⟨ka, kc, ia, ic, rfl, hin⟩ := h
  exact oGood_any p T ka kc ia ic x hin
theorem rgood_of {p : Pay} {T : BT Pay} {v : Value} {x : World} (h : CopyOf p T v x) : Calls Tryz.prog 13 #[v] x fun e w' => e = .returned (.bool (decide (0 < goodV p T 0 0))) ∧ Below x.heap.size x w' := by
  obtain ⟨ka, kc, ia, ic, rfl, hin⟩ := h
  exact rgood_any p T ka kc ia ic x hin
theorem same_of {p q : Pay} {T U : BT Pay} {v u : Value} {x : World} (h : CopyOf p T v x) (k : CopyOf q U u x) : Calls Tryz.prog 14 #[v, u] x fun e w' => e = .returned (.bool (sameV p T q U)) ∧ Below x.heap.size x w' := by
  obtain ⟨ka, kc, ia, ic, rfl, hin⟩ := h
  obtain ⟨kb, kd, ib, id, rfl, hin2⟩ := k
  exact osame_any p q T U ka kb kc kd ia ib ic id x hin hin2
theorem rsame_of {p q : Pay} {T U : BT Pay} {v u : Value} {x : World} (h : CopyOf p T v x) (k : CopyOf q U u x) : Calls Tryz.prog 15 #[v, u] x fun e w' => e = .returned (.bool (sameV p T q U)) ∧ Below x.heap.size x w' := by
  obtain ⟨ka, kc, ia, ic, rfl, hin⟩ := h
  obtain ⟨kb, kd, ib, id, rfl, hin2⟩ := k
  exact rsame_any p q T U ka kb kc kd ia ib ic id x hin hin2
set_option maxRecDepth 8000 in
set_option maxHeartbeats 20000000 in
theorem objGoods_walk (p q : Pay) (T U : BT Pay) (ka kb : Option Addr) (kc kd : Nat) (ia ib : Option Addr) (ic id : Nat) (w : World) (hp : OIn w p T ka kc ia ic) (hq : OIn w q U kb kd ib id) :
    Calls Tryz.prog 3 #[ov p ka kc ia (flen T) ic, ov q kb kd ib (flen U) id] w fun e w' => e = .returned (.bool true) ∧ Below w.heap.size w w' := by
  have hb0 : Below w.heap.size w ((w.alloc (.cells (obox p ka kc ia (flen T) ic) 25)).alloc (.cells (obox q kb kd ib (flen U) id) 25)) := ((Below.refl _ _).alloc (Nat.le_refl _) _).alloc (by simp) _
  have HA := hide ((six_box w p ka kc ia (flen T) ic 25).below (by simp) ((Below.refl _ _).alloc (Nat.le_refl _) (.cells (obox q kb kd ib (flen U) id) 25)))
  have HC := six_box (w.alloc (.cells (obox p ka kc ia (flen T) ic) 25)) q kb kd ib (flen U) id 25
  rw [show (w.alloc (.cells (obox p ka kc ia (flen T) ic) 25)).heap.size = w.heap.size + 1 by simp] at HC
  have HC := hide HC
  have hz : w.heap.size + 1 < ((w.alloc (.cells (obox p ka kc ia (flen T) ic) 25)).alloc (.cells (obox q kb kd ib (flen U) id) 25)).heap.size := by simp
  have HP := hide hp
  have HQ := hide hq
  have HB := hide hb0
  have CW := hide wakes_any
  have CL := hide (large_any p T ka kc ia ic _ (hp.below hb0))
  have CL2 := hide (fun x h => large_any q U kb kd ib id x (OIn.below (w := w) (w' := x) h hq))
  clear hp hq hb0
  go_enter Tryz.func3, Tryz.ntmps3
  go_wp2_with fail
  refine CL.out.mono ?_
  rintro e w1 ⟨⟨r, rfl⟩, h1⟩
  have H1 := hide (below_t5 HB.out h1)
  have hz1 : w.heap.size + 1 < w1.heap.size := Nat.lt_of_lt_of_le hz h1.size
  have HA1 := hide (HA.out.below (Nat.lt_of_succ_lt hz) h1)
  have HC1 := hide (HC.out.below hz h1)
  obtain ⟨s0, s1, s2, s3, s4, s5⟩ := HA1.out
  obtain ⟨t0, t1, t2, t3, t4, t5⟩ := HC1.out
  simp only [Nat.zero_add] at s1 s2 s3 s4 s5 t1 t2 t3 t4 t5
  clear h1 HA HC HB hz CL
  cases r
  case true =>
    go_wp2_with fail
    refine (CW.out _).mono ?_
    rintro e w2 ⟨rfl, h2⟩
    go_wp2_with fail
    go_ret
    exact ⟨rfl, below_t5 H1.out h2⟩
  go_wp2_with fail
  refine (CL2.out _ H1.out).mono ?_
  rintro e w2 ⟨⟨r, rfl⟩, h2⟩
  have H2 := hide (below_t5 H1.out h2)
  have hz2 : w.heap.size + 1 < w2.heap.size := Nat.lt_of_lt_of_le hz1 h2.size
  have HA2 := hide (HA1.out.below (Nat.lt_of_succ_lt hz1) h2)
  have HC2 := hide (HC1.out.below hz1 h2)
  clear h2 HA1 HC1 H1 hz1 CL2 s0 s1 s2 s3 s4 s5 t0 t1 t2 t3 t4 t5
  cases r
  case true =>
    go_wp2_with fail
    refine (CW.out _).mono ?_
    rintro e w3 ⟨rfl, h3⟩
    go_wp2_with fail
    go_ret
    exact ⟨rfl, below_t5 H2.out h3⟩
  go_wp2_with fail
  have PA : Hid (CopyOf p T (ov p ka kc ia (flen T) ic) w2) := hide ⟨ka, kc, ia, ic, rfl, HP.out.below H2.out⟩
  have PB : Hid (CopyOf q U (ov q kb kd ib (flen U) id) w2) := hide ⟨kb, kd, ib, id, rfl, HQ.out.below H2.out⟩
  have KS : Hid (∀ x, Below w2.heap.size w2 x → x.cell? ⟨w.heap.size, 0, none⟩ = some (.int .i64 p.kind) ∧ x.cell? ⟨w.heap.size, 1, none⟩ = some (.bool p.flag) ∧ x.cell? ⟨w.heap.size, 2, none⟩ = some (.int .i64 p.num) ∧ x.cell? ⟨w.heap.size, 3, none⟩ = some (.string p.text) ∧ x.cell? ⟨w.heap.size, 4, none⟩ = some (.slice ka p.keys.length kc) ∧ x.cell? ⟨w.heap.size, 5, none⟩ = some (.slice ia (flen T) ic) ∧ x.cell? ⟨w.heap.size + 1, 0, none⟩ = some (.int .i64 q.kind) ∧ x.cell? ⟨w.heap.size + 1, 1, none⟩ = some (.bool q.flag) ∧ x.cell? ⟨w.heap.size + 1, 2, none⟩ = some (.int .i64 q.num) ∧ x.cell? ⟨w.heap.size + 1, 3, none⟩ = some (.string q.text) ∧ x.cell? ⟨w.heap.size + 1, 4, none⟩ = some (.slice kb q.keys.length kd) ∧ x.cell? ⟨w.heap.size + 1, 5, none⟩ = some (.slice ib (flen U) id)) := hide (fun x hx => by
    obtain ⟨a0, a1, a2, a3, a4, a5⟩ := HA2.out.below (by omega) hx
    obtain ⟨b0, b1, b2, b3, b4, b5⟩ := HC2.out.below hz2 hx
    simp only [Nat.zero_add] at a1 a2 a3 a4 a5 b1 b2 b3 b4 b5
    exact ⟨a0, a1, a2, a3, a4, a5, b0, b1, b2, b3, b4, b5⟩)
  have hdr : Below w2.heap.size w2 w2.drew := (Below.refl _ _).drew
  obtain ⟨gd, hgd⟩ : ∃ gd, decide (0 < goodV p T 0 0) = gd := ⟨_, rfl⟩
  obtain ⟨sv, hsv⟩ : ∃ sv, sameV p T q U = sv := ⟨_, rfl⟩
  clear HA2 HC2 HP HQ hz2
  go_region_held3 (fun x => x.cell? ⟨w.heap.size, 0, none⟩ = some (.int .i64 p.kind) ∧ x.cell? ⟨w.heap.size, 1, none⟩ = some (.bool p.flag) ∧ x.cell? ⟨w.heap.size, 2, none⟩ = some (.int .i64 p.num) ∧ x.cell? ⟨w.heap.size, 3, none⟩ = some (.string p.text) ∧ x.cell? ⟨w.heap.size, 4, none⟩ = some (.slice ka p.keys.length kc) ∧ x.cell? ⟨w.heap.size, 5, none⟩ = some (.slice ia (flen T) ic) ∧ x.cell? ⟨w.heap.size + 1, 0, none⟩ = some (.int .i64 q.kind) ∧ x.cell? ⟨w.heap.size + 1, 1, none⟩ = some (.bool q.flag) ∧ x.cell? ⟨w.heap.size + 1, 2, none⟩ = some (.int .i64 q.num) ∧ x.cell? ⟨w.heap.size + 1, 3, none⟩ = some (.string q.text) ∧ x.cell? ⟨w.heap.size + 1, 4, none⟩ = some (.slice kb q.keys.length kd) ∧ x.cell? ⟨w.heap.size + 1, 5, none⟩ = some (.slice ib (flen U) id)) (first | (refine KS.out _ ?_; repeat (first | exact Below.refl _ _ | refine below_t5 ?_ (by assumption))) | go_keep) ((first
    | (go_at_call 12; refine (copy_of (p := p) (T := T) ?_).mono ?_; refine CopyOf.below PA.out ?_; (repeat (first | exact Below.refl _ _ | refine below_t5 ?_ (by assumption))); rintro e wy ⟨v', rfl, hc, hy⟩)
    | (go_at_call 12; refine (copy_of (p := q) (T := U) ?_).mono ?_; refine CopyOf.below PB.out ?_; (repeat (first | exact Below.refl _ _ | refine below_t5 ?_ (by assumption))); rintro e wy ⟨v', rfl, hc, hy⟩)
    | (go_at_call 11; refine (good_of (p := p) (T := T) ?_).mono ?_; refine CopyOf.below (by assumption) ?_; (repeat (first | exact Below.refl _ _ | refine below_t5 ?_ (by assumption))); rintro e wy ⟨rfl, hy⟩; rw [hgd])
    | (go_at_call 13; refine (rgood_of (p := p) (T := T) ?_).mono ?_; refine CopyOf.below PA.out ?_; (repeat (first | exact Below.refl _ _ | refine below_t5 ?_ (by assumption))); rintro e wy ⟨rfl, hy⟩; rw [hgd])
    | (go_at_call 14; refine (same_of (p := p) (T := T) (q := q) (U := U) ?_ ?_).mono ?_; refine CopyOf.below (by assumption) ?_; (repeat (first | exact Below.refl _ _ | refine below_t5 ?_ (by assumption))); refine CopyOf.below (by assumption) ?_; (repeat (first | exact Below.refl _ _ | refine below_t5 ?_ (by assumption))); rintro e wy ⟨rfl, hy⟩; rw [hsv])
    | (go_at_call 14; refine (same_of (p := p) (T := T) (q := p) (U := T) ?_ ?_).mono ?_; refine CopyOf.below (by assumption) ?_; (repeat (first | exact Below.refl _ _ | refine below_t5 ?_ (by assumption))); refine CopyOf.below (by assumption) ?_; (repeat (first | exact Below.refl _ _ | refine below_t5 ?_ (by assumption))); rintro e wy ⟨rfl, hy⟩; rw [sameV_refl])
    | (go_at_call 15; refine (rsame_of (p := p) (T := T) (q := q) (U := U) ?_ ?_).mono ?_; refine CopyOf.below PA.out ?_; (repeat (first | exact Below.refl _ _ | refine below_t5 ?_ (by assumption))); refine CopyOf.below PB.out ?_; (repeat (first | exact Below.refl _ _ | refine below_t5 ?_ (by assumption))); rintro e wy ⟨rfl, hy⟩; rw [hsv])
    | (go_at_call 10; refine (CW.out _).mono ?_; rintro e wy ⟨rfl, hy⟩)))
  all_goals
    go_wp2_with fail
    go_ret
    refine ⟨by simp, below_t5 H2.out ?_⟩
    repeat (first | exact Below.refl _ _ | refine below_t5 ?_ (by assumption))
end Go.Proofs.YtcgoklacjniemaaGreatDoor
