/-
  What the landed reader's array answers at the text of an array of one item, a reference.
-/
import Derived.Test.YtcgoklacjniemaaGreatDoorO5Obj
import Derived.Deep.RegionLaw
import Derived.LoopN
namespace Go.Proofs.YtcgoklacjniemaaGreatDoor
open Go.RowKit Go.Deep

theorem arr_fin {R : Ending → World → Prop} {a : Act} {w : World} {B : Nat} {v0 v1 v2 v3 v4 v5 : Value} {t : TypeId} (hk : Blk w B #[v0, v1, v2, v3, v4, v5] t) (h2 : a.tmps[4]?.getD undef = .pointer (some ⟨B, 0, none⟩)) (hd : a.defers = []) (h : R (.returned (.agg #[v0, v1, v2, v3, v4, v5])) w) :
    bodyPost Tryz.prog Tryz.f53 R Exit.ret a w := by
  obtain ⟨⟨f0, f1, f2, f3, f4, f5⟩, _⟩ := hk.six
  refine bodyPost_ret (v := .agg #[v0, v1, v2, v3, v4, v5]) ?_ hd h
  simp [results, Tryz.results53, go_sem, f0, f1, f2, f3, f4, f5, h2]
abbrev refP (x : Nat) : Pay := ⟨8, false, x, ⟨#[]⟩, []⟩
abbrev arrP : Pay := ⟨6, false, 0, ⟨#[]⟩, []⟩
abbrev arrT (x : Nat) : BT Pay := .node 0 0 (refP x) .nil .nil
set_option maxRecDepth 8000 in
set_option maxHeartbeats 4000000 in
theorem array_one (b : Nat) (s : ByteArray) (a : Nat) (l : Int) (deep : Int) (w : World) (h : RAt w b s a l) (hs : s.size ≤ 16777216) (ha : a ≤ s.size) (hd0 : 1 ≤ deep) (hd : deep ≤ 32) (A1 : Nat) (hA1 : blanksV s.data.toList a = A1)
    (p1 : Lib.hasPrefix (s.data.toList.drop A1) [93] = false) (x : Nat) (hx : x ≤ 4096) (e2 : Nat) (he2 : e2 ≤ s.size) (A2 : Nat) (hA2 : blanksV s.data.toList e2 = A2) (p2 : Lib.hasPrefix (s.data.toList.drop A2) [93] = true)
    (HO : ∀ w, RAt w b s A1 l → Calls Tryz.prog 32 #[.pointer (some ⟨b, 0, none⟩), .int .i64 (deep + 1)] w fun e w' => e = .returned (ov (refP x) none 0 none 0 0) ∧ But b w w' ∧ RAt w' b s e2 (l - 1)) :
    Calls Tryz.prog 53 #[.pointer (some ⟨b, 0, none⟩), .int .i64 deep] w fun e w' => (∃ ia ic, e = .returned (ov arrP none 0 ia 1 ic) ∧ OIn (fresh w.heap.size w') arrP (arrT x) none 0 ia ic) ∧ But b w w' ∧ RAt w' b s (A2 + 1) (l - 1) := by
  have hlt := h.lt
  have hA1s : A1 ≤ s.size := by rw [← hA1]; exact blanks_le s a ha
  have hA2s : A2 ≤ s.size := by rw [← hA2]; exact blanks_le s e2 he2
  have CP1 := hide (fun w' (h' : RAt w' b s a l) => pass_any b s a l w' h' hs ha)
  rw [hA1] at CP1
  have CP2 := hide (fun w' (h' : RAt w' b s e2 (l - 1)) => pass_any b s e2 (l - 1) w' h' hs he2)
  rw [hA2] at CP2
  have CT1 := hide (fun w' (h' : RAt w' b s A1 l) => take_hit b s ⟨#[93]⟩ A1 l w' h' hs hA1s (by decide) false p1)
  have CT2 := hide (fun w' (h' : RAt w' b s A2 (l - 1)) => take_hit b s ⟨#[93]⟩ A2 (l - 1) w' h' hs hA2s (by decide) true p2)
  have CO := hide HO
  have CM := hide must_t
  have hdd : decide (deep ≤ 32) = true := by simpa using hd
  have hb1 : Below w.heap.size w ((w.alloc (.cells zobj 25)).alloc (.cells #[.int .i64 6, .bool false, .int .i64 0, .string ⟨#[]⟩, .slice none 0 0, .slice none 0 0] 25)) := ((Below.refl _ _).alloc (Nat.le_refl _) _).alloc (by simp) _
  have HB1 := hide (But.of_below (b := b) hb1)
  have HR1 := hide (h.below hb1)
  have HKa : Hid (Blk ((w.alloc (.cells zobj 25)).alloc (.cells #[.int .i64 6, .bool false, .int .i64 0, .string ⟨#[]⟩, .slice none 0 0, .slice none 0 0] 25)) w.heap.size zobj 25) := hide ((Blk.new w _ _).below ((Below.refl _ _).alloc (Nat.le_refl _) _))
  have HKo : Hid (Blk ((w.alloc (.cells zobj 25)).alloc (.cells #[.int .i64 6, .bool false, .int .i64 0, .string ⟨#[]⟩, .slice none 0 0, .slice none 0 0] 25)) (w.heap.size + 1) #[.int .i64 6, .bool false, .int .i64 0, .string ⟨#[]⟩, .slice none 0 0, .slice none 0 0] 25) := hide (by
    have := Blk.new (w.alloc (.cells zobj 25)) #[.int .i64 6, .bool false, .int .i64 0, .string ⟨#[]⟩, .slice none 0 0, .slice none 0 0] 25
    rwa [show (w.alloc (.cells zobj 25)).heap.size = w.heap.size + 1 by simp] at this)
  clear h p1 p2 HO hb1 hA1 hA2
  go_enter Tryz.func53, Tryz.ntmps53
  go_wp2_with fail
  refine (CM.out _).mono ?_
  rintro e wm ⟨rfl, hwm⟩
  subst hwm
  go_wp2_with fail
  refine (CP1.out _ HR1.out).mono ?_
  rintro e w2 ⟨rfl, h1, h2⟩
  have HB2 := hide (HB1.out.trans h1)
  have HR2 := hide h2
  have HKa := hide (HKa.out.but h1 (by omega))
  have HKo := hide (HKo.out.but h1 (by omega))
  have hz2 : w.heap.size + 1 + 1 ≤ w2.heap.size := by have := h1.size; simp at this; omega
  clear h1 h2 HB1 HR1
  go_wp2_with fail
  refine wp_loop_rounds 2 ?_
  rw [rounds_succ]
  go_wp2_with fail
  refine (CT1.out _ HR2.out).mono ?_
  rintro e w3 ⟨rfl, h1, h2⟩
  have HB3 := hide (HB2.out.trans h1)
  have HR3 : Hid (RAt w3 b s A1 l) := hide h2
  have HKa := hide (HKa.out.but h1 (by omega))
  have HKo := hide (HKo.out.but h1 (by omega))
  have hz3 : w.heap.size + 1 + 1 ≤ w3.heap.size := Nat.le_trans hz2 h1.size
  clear h1 h2 HB2 HR2 hz2
  go_wp2_with fail
  have e5 : w3.cell? ⟨w.heap.size + 1, 5, none⟩ = some (.slice none 0 0) := HKo.out.cell 5
  have AP : Hid (∀ y, But b w3 y → ∃ g cap w2, (Builtin.append_ #[23, 23] 23 #[.slice none 0 0, .slice (some ⟨y.heap.size, 0, none⟩) 1 1]).run Tryz.prog (y.alloc (.cells (Ent.cells ⟨0, 0, refP x, .nil, none, 0, none, 0⟩).toArray 25)) = .ok (.slice (some ⟨g, 0, none⟩) 1 cap) w2 ∧
      ORow w2 (w.heap.size + 1 + 1) (.slice (some ⟨g, 0, none⟩) 1 cap) [⟨0, 0, refP x, .nil, none, 0, none, 0⟩] ∧ Below (w.heap.size + 1 + 1) y w2) := hide (fun y hy => by
    obtain ⟨g, cap, w2, hr, ho, hb, _⟩ := app_obj (W := w3) (W1 := y) (B := w.heap.size + 1 + 1) (v := .slice none 0 0) (l := []) ⟨0, 0, refP x, .nil, none, 0, none, 0⟩ (ORow.nil _ _) hy.size (fun k h1 h2 => hy.block k h2 (by omega)) hz3 (oin_ref _ x hx) (by simp) _ rfl
    exact ⟨g, cap, w2, hr, ho, hb⟩)
  rename_i k0
  have HKK := hide k0
  clear k0
  have hszl : w.heap.size + 1 < w3.heap.size := by omega
  have hwr : IntKind.i64.wrap (deep + 1) = deep + 1 := by rw [IntKind.wrap_i64]; omega
  go_region_law ((first | (go_simp; go_at_call 32; refine (CO.out _ ?_).mono ?_; exact RAt.drewN HR3.out 1; rintro e wy ⟨rfl, h1, h2⟩; have hyb : But b w3 wy := ⟨h1.os, h1.tape, h1.output, h1.size, h1.block⟩; obtain ⟨g, cap, w4, hr, ho, hb⟩ := AP.out wy hyb; have HR := hide hr; have HY := hide hyb; have HRy := hide h2; have HO4 := hide ho; have HB4 := hide hb; have q5 : wy.cell? ⟨w.heap.size + 1, 5, none⟩ = some (.slice none 0 0) := (HKo.out.but hyb (by omega)).cell 5; have hszy : w.heap.size + 1 < wy.heap.size := Nat.lt_of_lt_of_le hszl hyb.size; have HQ5 := hide (((HKo.out.but hyb (by omega)).kept hb (by omega)).cell 5); have HZ5 := hide (((HKo.out.but hyb (by omega)).kept hb (by omega)).frozen 5); clear h1 h2 hyb hr ho hb) | (refine step_append_run _ (by rfl) _ _ _ _ rfl _ _ (by rfl) (by rfl) _ _ HR.out ?_; clear q5; have q5 := HQ5.out; have z5 := HZ5.out)))
  all_goals
    have hko4 := ((HKo.out.but HY.out (by omega)).kept HB4.out (by omega)).set 5 (.slice (some ⟨g, 0, none⟩) 1 cap)
    have hka4 := ((HKa.out.but HY.out (by omega)).kept HB4.out (by omega)).other (b' := w.heap.size + 1) (by omega) 5 (.slice (some ⟨g, 0, none⟩) 1 cap)
    have hr4 := Blk.other (Blk.kept HRy.out HB4.out (by omega)) (b' := w.heap.size + 1) (by omega) 5 (.slice (some ⟨g, 0, none⟩) 1 cap)
    have hb4 : But b w (w4.setCell ⟨w.heap.size + 1, 5, none⟩ (.slice (some ⟨g, 0, none⟩) 1 cap)) := ((HB3.out.trans HY.out).more HB4.out (by omega)).more ((Below.refl w.heap.size w4).setCell (p := ⟨w.heap.size + 1, 5, none⟩) (by simp) (.slice (some ⟨g, 0, none⟩) 1 cap)) (Nat.le_refl _)
    have ho4 := HO4.out.kept (w' := w4.setCell ⟨w.heap.size + 1, 5, none⟩ (.slice (some ⟨g, 0, none⟩) 1 cap)) (by simp [World.setCell]) fun k h1 h2 => Below.heap_setCell _ _ _ _ (by simp; omega)
    have hz4 : w.heap.size + 1 + 1 ≤ (w4.setCell ⟨w.heap.size + 1, 5, none⟩ (.slice (some ⟨g, 0, none⟩) 1 cap)).heap.size := by have h1 := HY.out.size; have h2 := HB4.out.size; simp [World.setCell]; omega
    have HKo4 := hide hko4
    have HKa4 := hide hka4
    have HR4 := hide (show RAt (w4.setCell ⟨w.heap.size + 1, 5, none⟩ (.slice (some ⟨g, 0, none⟩) 1 cap)) b s e2 (l - 1) from hr4)
    have HB5 := hide hb4
    have HO5 := hide ho4
    clear hko4 hka4 hr4 hb4 ho4 q5 z5
    refine HKK.out _ _ ?_
    generalize w4.setCell ⟨w.heap.size + 1, 5, none⟩ (.slice (some ⟨g, 0, none⟩) 1 cap) = w5 at HKo4 HKa4 HR4 HB5 HO5 hz4 ⊢
    go_wp2_with fail
    refine (CP2.out _ HR4.out).mono ?_
    rintro e w6 ⟨rfl, h1, h2⟩
    have HB6 := hide (HB5.out.trans h1)
    have HR6 := hide h2
    have HKo6 := hide (HKo4.out.but h1 (by omega))
    have HKa6 := hide (HKa4.out.but h1 (by omega))
    have HO6 := hide (HO5.out.kept h1.size fun k h3 h4 => h1.block k h4 (by omega))
    have hz6 : w.heap.size + 1 + 1 ≤ w6.heap.size := Nat.le_trans hz4 h1.size
    clear h1 h2
    go_wp2_with fail
    rw [rounds_succ]
    go_wp2_with fail
    refine (CT2.out _ HR6.out).mono ?_
    rintro e w7 ⟨rfl, h1, h2⟩
    have HB7 := hide (HB6.out.trans h1)
    have HR7 : Hid (RAt w7 b s (A2 + 1) (l - 1)) := hide h2
    have hko7 := HKo6.out.but h1 (by omega)
    have hka7 := HKa6.out.but h1 (by omega)
    have HO7 := hide (HO6.out.kept h1.size fun k h3 h4 => h1.block k h4 (by omega))
    have HKa7 := hide hka7
    obtain ⟨⟨r0, r1, r2, r3, r4, r5⟩, ⟨y0, y1, y2, y3, y4, y5⟩⟩ := hka7.six
    obtain ⟨⟨q0, q1, q2, q3, q4, q5⟩, _⟩ := hko7.six
    clear h1 h2 hko7 hka7
    go_wp2_with fail
    refine arr_fin (st6_blk HKa7.out (.int .i64 6) (.bool false) (.int .i64 0) (.string ⟨#[]⟩) (.slice none 0 0) (.slice (some ⟨g, 0, none⟩) 1 cap)) rfl rfl ⟨⟨some ⟨g, 0, none⟩, cap, rfl, ?_⟩, st6_but HB7.out (Nat.le_refl _) _ _ _ _ _ _, st6_rat HR7.out (by omega) _ _ _ _ _ _⟩
    obtain ⟨ia, ic, hv, i1, i2, i3⟩ := HO7.out.items
    simp only [Value.slice.injEq] at hv
    obtain ⟨rfl, _, rfl⟩ := hv
    have hsub : Sub (fresh (w.heap.size + 1 + 1) w7) (fresh w.heap.size (st6 w7 w.heap.size (.int .i64 6) (.bool false) (.int .i64 0) (.string ⟨#[]⟩) (.slice none 0 0) (.slice (some ⟨g, 0, none⟩) 1 cap))) := only_sub (Nat.le_of_eq (st6_size _ _ _ _ _ _ _ _).symm) fun k h1 _ => ⟨by omega, st6_block (w := w7) (b := w.heap.size) (k := k) (by omega) _ _ _ _ _ _⟩
    exact ⟨⟨⟨by simp, by simp⟩, ⟨by simp, by simp⟩, by simp [ByteArray.size], by simp⟩, ⟨Or.inl rfl, ⟨by simp, by simp⟩, by omega⟩, ⟨i1, by simp [flen]⟩, i2, by
      rcases i3 with h | ⟨b', off', e, hl, hR⟩
      · exact Or.inl h
      · exact Or.inr ⟨b', off', e, Nat.lt_of_lt_of_le hl hsub.size, hR.sub hsub⟩⟩
end Go.Proofs.YtcgoklacjniemaaGreatDoor
