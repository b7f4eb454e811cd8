/-
  What the landed reader's object answers at the text of an array of one item, a reference.
-/
import Derived.Test.YtcgoklacjniemaaGreatDoorO5Arr
namespace Go.Proofs.YtcgoklacjniemaaGreatDoor
open Go.RowKit Go.Deep

set_option maxRecDepth 8000 in
set_option maxHeartbeats 4000000 in
theorem object_arr (b : Nat) (s : ByteArray) (a : Nat) (l deep : Int) (w : World) (h : RAt w b s a l) (hs : s.size ≤ 16777216) (ha : a ≤ s.size) (hl : 1 ≤ l) (hl2 : l ≤ 65536) (A : Nat) (hA : blanksV s.data.toList a = A)
    (p1 : Lib.hasPrefix (s.data.toList.drop A) [60, 60] = false) (p2 : Lib.hasPrefix (s.data.toList.drop A) [91] = true) (x : Nat) (e2 : Nat)
    (HW : ∀ w, RAt w b s (A + 1) (l - 1) → Calls Tryz.prog 53 #[.pointer (some ⟨b, 0, none⟩), .int .i64 deep] w fun e w' => (∃ ia ic, e = .returned (ov arrP none 0 ia 1 ic) ∧ OIn (fresh w.heap.size w') arrP (arrT x) none 0 ia ic) ∧ But b w w' ∧ RAt w' b s e2 (l - 1 - 1)) :
    Calls Tryz.prog 32 #[.pointer (some ⟨b, 0, none⟩), .int .i64 deep] w fun e w' => (∃ ia ic, e = .returned (ov arrP none 0 ia 1 ic) ∧ OIn (fresh w.heap.size w') arrP (arrT x) none 0 ia ic) ∧ But b w w' ∧ RAt w' b s e2 (l - 1 - 1) := by
  have hlt := h.lt
  have hAs : A ≤ s.size := by rw [← hA]; exact blanks_le s a ha
  obtain ⟨⟨c0, c1, c2⟩, z0, z1, z2⟩ := h.three
  have CP := hide (fun w' (h' : RAt w' b s a (l - 1)) => pass_any b s a (l - 1) w' h' hs ha)
  rw [hA] at CP
  have CT2 := hide (fun w' (h' : RAt w' b s A (l - 1)) => take_hit b s ⟨#[91]⟩ A (l - 1) w' h' hs hAs (by decide) true p2)
  have CT := hide (fun p w' (h' : RAt w' b s A (l - 1)) (hp : p.size ≤ 16) (ht : Lib.hasPrefix (s.data.toList.drop A) p.data.toList = false) => take_hit b s p A (l - 1) w' h' hs hAs hp false ht)
  have CW := hide HW
  have CM := hide must_t
  have hflat : flatV arrP 1 = true := by unfold flatV; simp [ByteArray.size]
  have CF := hide (fun w' ia ic (h' : OIn w' arrP (arrT x) none 0 ia ic) => fits_any arrP (arrT x) none 0 ia ic w' h')
  rw [show flen (arrT x) = 1 from rfl, hflat] at CF
  have P1 := hide p1
  have hb1 : Below (w.setCell ⟨b, 2, none⟩ (.int .i64 (l - 1))).heap.size (w.setCell ⟨b, 2, none⟩ (.int .i64 (l - 1))) ((w.setCell ⟨b, 2, none⟩ (.int .i64 (l - 1))).alloc (.cells zobj 25)) := (Below.refl _ _).alloc (Nat.le_refl _) _
  have HB1 := hide ((But.setCell b w 2 (.int .i64 (l - 1))).trans (But.of_below hb1))
  have HR1 := hide ((h.left1 (l - 1)).below hb1)
  have hsz : (w.setCell ⟨b, 2, none⟩ (.int .i64 (l - 1))).heap.size = w.heap.size := by simp [World.setCell]
  have HK1 : Hid (Blk ((w.setCell ⟨b, 2, none⟩ (.int .i64 (l - 1))).alloc (.cells zobj 25)) w.heap.size zobj 25) := hide (by
    have := Blk.new (w.setCell ⟨b, 2, none⟩ (.int .i64 (l - 1))) zobj 25
    rwa [hsz] at this)
  have hl3 : decide ((0 : Int) ≤ l - 1) = true := by simp; omega
  clear p1 p2 HW hflat hb1 hsz h hA
  go_enter Tryz.func32, Tryz.ntmps32
  go_wp2_with fail
  have hszw : w.heap.size < ((w.setCell ⟨b, 2, none⟩ (.int .i64 (l - 1))).alloc (.cells zobj 25)).heap.size := by simp [World.setCell]
  generalize (w.setCell ⟨b, 2, none⟩ (.int .i64 (l - 1))).alloc (.cells zobj 25) = w1 at HB1 HR1 HK1 hszw ⊢
  clear c0 c1 c2 z0 z1 z2 hl3
  refine (CM.out _).mono ?_
  rintro e wm ⟨rfl, rfl⟩
  go_wp2_with fail
  refine (CP.out _ HR1.out).mono ?_
  rintro e w2 ⟨rfl, h1, h2⟩
  have HB2 := hide (HB1.out.trans h1)
  have HR2 := hide h2
  have HK2 := hide (HK1.out.but h1 (by omega))
  have hz2 : w.heap.size < w2.heap.size := Nat.lt_of_lt_of_le hszw h1.size
  clear h1 h2 HB1 HR1 HK1 hszw
  go_wp2_with fail
  have hb3 : Below w2.heap.size w2 (w2.alloc (.cells zobj 25)) := (Below.refl _ _).alloc (Nat.le_refl _) _
  have HB := hide (HB2.out.trans (But.of_below hb3))
  have HR := hide (HR2.out.below hb3)
  have HKa := hide (HK2.out.below hb3)
  have HKo := hide (Blk.new w2 zobj 25)
  obtain ⟨O, hO⟩ : ∃ O, w2.heap.size = O := ⟨_, rfl⟩
  rw [hO] at HKo hz2 ⊢
  generalize w2.alloc (.cells zobj 25) = w3 at HB HR HKa HKo ⊢
  have hbO : b ≠ O := by omega
  have hbR : b ≠ w.heap.size := by omega
  clear HB2 HR2 HK2 hb3 hO
  refine (CT.out ⟨#[60, 60]⟩ _ HR.out (by decide) P1.out).mono ?_
  rintro e w4 ⟨rfl, h1, h2⟩
  have HB := hide (HB.out.trans h1)
  have HR : Hid (RAt w4 b s A (l - 1)) := hide h2
  have HKa := hide (HKa.out.but h1 hbR.symm)
  have HKo := hide (HKo.out.but h1 hbO.symm)
  clear h1 h2
  go_wp2_with fail
  refine (CT2.out _ HR.out).mono ?_
  rintro e w5 ⟨rfl, h1, h2⟩
  have HB := hide (HB.out.trans h1)
  have HR : Hid (RAt w5 b s (A + 1) (l - 1)) := hide h2
  have HKa := hide (HKa.out.but h1 hbR.symm)
  have HKo := hide (HKo.out.but h1 hbO.symm)
  clear h1 h2
  go_wp2_with fail
  refine (CW.out _ HR.out).mono ?_
  rintro e wW ⟨⟨ia, ic, rfl, hin⟩, h1, h2⟩
  have hO5 : O < w5.heap.size := HKo.out.lt
  have HIN := hide hin
  have HB := hide (HB.out.trans h1)
  have HR := hide h2
  have HKa := hide (HKa.out.but h1 hbR.symm)
  have hko := HKo.out.but h1 hbO.symm
  have HKo := hide hko
  obtain ⟨⟨r0, r1, r2, r3, r4, r5⟩, ⟨y0, y1, y2, y3, y4, y5⟩⟩ := hko.six
  clear h1 h2 hko hin
  go_wp2_with fail
  clear r0 r1 r2 r3 r4 r5 y0 y1 y2 y3 y4 y5
  have HB : Hid (But b w ((((((wW.setCell ⟨O, 0, none⟩ (.int .i64 6)).setCell ⟨O, 1, none⟩ (.bool false)).setCell ⟨O, 2, none⟩ (.int .i64 0)).setCell ⟨O, 3, none⟩ (.string ⟨#[]⟩)).setCell ⟨O, 4, none⟩ (.slice none 0 0)).setCell ⟨O, 5, none⟩ (.slice ia 1 ic))) := hide (st6_but HB.out (Nat.le_of_lt hz2) (.int .i64 6) (.bool false) (.int .i64 0) (.string ⟨#[]⟩) (.slice none 0 0) (.slice ia 1 ic))
  have HR : Hid (RAt ((((((wW.setCell ⟨O, 0, none⟩ (.int .i64 6)).setCell ⟨O, 1, none⟩ (.bool false)).setCell ⟨O, 2, none⟩ (.int .i64 0)).setCell ⟨O, 3, none⟩ (.string ⟨#[]⟩)).setCell ⟨O, 4, none⟩ (.slice none 0 0)).setCell ⟨O, 5, none⟩ (.slice ia 1 ic)) b s e2 (l - 1 - 1)) := hide (st6_rat HR.out hbO (.int .i64 6) (.bool false) (.int .i64 0) (.string ⟨#[]⟩) (.slice none 0 0) (.slice ia 1 ic))
  have HKa : Hid (Blk ((((((wW.setCell ⟨O, 0, none⟩ (.int .i64 6)).setCell ⟨O, 1, none⟩ (.bool false)).setCell ⟨O, 2, none⟩ (.int .i64 0)).setCell ⟨O, 3, none⟩ (.string ⟨#[]⟩)).setCell ⟨O, 4, none⟩ (.slice none 0 0)).setCell ⟨O, 5, none⟩ (.slice ia 1 ic)) w.heap.size zobj 25) := hide ((st6_block (w := wW) (b := O) (k := w.heap.size) (Nat.ne_of_lt hz2) _ _ _ _ _ _).trans HKa.out)
  have HKo : Hid (Blk ((((((wW.setCell ⟨O, 0, none⟩ (.int .i64 6)).setCell ⟨O, 1, none⟩ (.bool false)).setCell ⟨O, 2, none⟩ (.int .i64 0)).setCell ⟨O, 3, none⟩ (.string ⟨#[]⟩)).setCell ⟨O, 4, none⟩ (.slice none 0 0)).setCell ⟨O, 5, none⟩ (.slice ia 1 ic)) O #[.int .i64 6, .bool false, .int .i64 0, .string ⟨#[]⟩, .slice none 0 0, .slice ia 1 ic] 25) := hide (st6_blk HKo.out (.int .i64 6) (.bool false) (.int .i64 0) (.string ⟨#[]⟩) (.slice none 0 0) (.slice ia 1 ic))
  have HIN : Hid (OIn (only (fun k => O < k) ((((((wW.setCell ⟨O, 0, none⟩ (.int .i64 6)).setCell ⟨O, 1, none⟩ (.bool false)).setCell ⟨O, 2, none⟩ (.int .i64 0)).setCell ⟨O, 3, none⟩ (.string ⟨#[]⟩)).setCell ⟨O, 4, none⟩ (.slice none 0 0)).setCell ⟨O, 5, none⟩ (.slice ia 1 ic))) arrP (arrT x) none 0 ia ic) := hide (HIN.out.sub (only_sub (Nat.le_of_eq (st6_size _ _ _ _ _ _ _ _).symm) fun k h1 _ => ⟨Nat.lt_of_lt_of_le hO5 h1, st6_block (w := wW) (b := O) (k := k) (Nat.ne_of_gt (Nat.lt_of_lt_of_le hO5 h1)) _ _ _ _ _ _⟩))
  generalize ((((((wW.setCell ⟨O, 0, none⟩ (.int .i64 6)).setCell ⟨O, 1, none⟩ (.bool false)).setCell ⟨O, 2, none⟩ (.int .i64 0)).setCell ⟨O, 3, none⟩ (.string ⟨#[]⟩)).setCell ⟨O, 4, none⟩ (.slice none 0 0)).setCell ⟨O, 5, none⟩ (.slice ia 1 ic)) = wX at HB HR HKa HKo HIN ⊢
  refine (CF.out _ _ _ (HIN.out.sub (only_sub_all _ _))).mono ?_
  rintro e wY ⟨rfl, hf⟩
  have HIN := hide (HIN.out.sub (only_sub (S' := fun k => O < k) hf.size fun k h1 h2 => ⟨h1, hf.block k h2⟩))
  have HB := hide (HB.out.trans (But.of_below hf))
  have HR := hide (HR.out.below hf)
  have hka := HKa.out.below hf
  have hko := HKo.out.below hf
  have HKa := hide hka
  obtain ⟨⟨r0, r1, r2, r3, r4, r5⟩, ⟨y0, y1, y2, y3, y4, y5⟩⟩ := hka.six
  obtain ⟨⟨q0, q1, q2, q3, q4, q5⟩, _⟩ := hko.six
  clear hka hko hf
  go_wp2_with fail
  refine (CM.out _).mono ?_
  rintro e wm ⟨rfl, rfl⟩
  go_wp2_with fail
  exact obj_fin (st6_blk HKa.out (.int .i64 6) (.bool false) (.int .i64 0) (.string ⟨#[]⟩) (.slice none 0 0) (.slice ia 1 ic)) rfl rfl ⟨⟨ia, ic, rfl, HIN.out.sub (only_sub (Nat.le_of_eq (st6_size _ _ _ _ _ _ _ _).symm) fun k h1 _ => ⟨by omega, st6_block (w := wm) (b := w.heap.size) (k := k) (by omega) _ _ _ _ _ _⟩)⟩, st6_but HB.out (Nat.le_refl _) _ _ _ _ _ _, st6_rat HR.out hbR _ _ _ _ _ _⟩
end Go.Proofs.YtcgoklacjniemaaGreatDoor
