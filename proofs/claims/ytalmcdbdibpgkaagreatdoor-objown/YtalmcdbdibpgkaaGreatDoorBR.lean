/-
  Joined: O5Lob.
-/
import Derived.Test.YtalmcdbdibpgkaaGreatDoorBO
/-
  What the landed object answers, branch by branch.
-/
namespace Go.Proofs.YtalmcdbdibpgkaaGreatDoor
open Go.RowKit Go.Deep
set_option linter.unusedVariables false

/- what a branch reads: an object that lies, where it ends, what is left; or it gave up -/
def CaR (W0 : World) (b : Nat) (w : World) (s : ByteArray) (R : Option (Pay × BT Pay × Nat × Int)) (e : Ending) (w' : World) : Prop := match R with
  | some (p, T, q, l) => (∃ ka kc ia ic, e = .returned (ov p ka kc ia (flen T) ic) ∧ OIn (fresh w.heap.size w') p T ka kc ia ic) ∧ But b w w' ∧ RC W0 b w' s q l
  | none => e = thrown ∧ But b w w'
def ObF (W0 : World) (b : Nat) (w : World) (s : ByteArray) (R : Option (Pay × BT Pay × Nat × Int)) (e : Ending) (w' : World) : Prop := match R with
  | some (p, T, q, l) => if flatV p (flen T) = true then (∃ ka kc ia ic, e = .returned (ov p ka kc ia (flen T) ic) ∧ OIn (fresh w.heap.size w') p T ka kc ia ic) ∧ But b w w' ∧ RC W0 b w' s q l else e = thrown ∧ But b w w'
  | none => e = thrown ∧ But b w w'
theorem oin_leaf (w : World) (p : Pay) (hp : p.ok) (hk : p.keys = []) : OIn w p .nil none 0 none 0 := ⟨hp, ⟨Or.inl hk, ⟨by rw [hk]; simp, by rw [hk]; simp⟩, by omega⟩, ⟨by simp [flen], by simp [flen]⟩, by omega, Or.inl rfl⟩
theorem RC.st6 {W0 : World} {b : Nat} {w : World} {s : ByteArray} {q : Nat} {l : Int} (h : RC W0 b w s q l) {B : Nat} (hne : b ≠ B) (hB : W0.heap.size ≤ B) (v0 v1 v2 v3 v4 v5 : Value) : RC W0 b (st6 w B v0 v1 v2 v3 v4 v5) s q l :=
  ⟨st6_rat h.rat hne _ _ _ _ _ _, st6_below h.low hB _ _ _ _ _ _, h.hb, h.le⟩
set_option maxRecDepth 8000 in
set_option maxHeartbeats 2000000 in
theorem ob_arr (W0 : World) (b : Nat) (s : ByteArray) (a : Nat) (l deep : Int) (w : World) (h : RC W0 b w s a l) (hs : s.size ≤ 16777216) (hl : 1 ≤ l) (hl2 : l ≤ 65536) (A : Nat) (hA : blanksV s.data.toList a = A)
    (p0 : Lib.hasPrefix (s.data.toList.drop A) [60, 60] = false) (p1 : Lib.hasPrefix (s.data.toList.drop A) [91] = true) (R : Option (Pay × BT Pay × Nat × Int)) (HW : ∀ w', RC W0 b w' s (A + 1) (l - 1) → Calls Tryz.prog 44 #[.pointer (some ⟨b, 0, none⟩), .int .i64 deep] w' (CaR W0 b w' s R)) :
    Calls Tryz.prog 24 #[.pointer (some ⟨b, 0, none⟩), .int .i64 deep] w (ObF W0 b w s R) := by
  have hlt := h.lt
  obtain ⟨⟨c0, c1, c2⟩, z0, z1, z2⟩ := h.rat.three
  have CP := hide (fun w' (h' : RC W0 b w' s a (l - 1)) => pass_rc W0 b s a (l - 1) w' h' hs)
  rw [hA] at CP
  have CT := hide (fun p t w' (h' : RC W0 b w' s A (l - 1)) (hp : p.size ≤ 16) (ht : Lib.hasPrefix (s.data.toList.drop A) p.data.toList = t) => take_rc W0 b s p A (l - 1) w' h' hs hp t ht)
  have CW := hide HW
  have CM := hide must_t
  have CMF := hide must_f
  have HW0 := hide h.hb
  have P0 := hide p0
  have P1 := hide p1
  have hb1 : Below (w.setCell ⟨b, 2, none⟩ (.int .i64 (l - 1))).heap.size (w.setCell ⟨b, 2, none⟩ (.int .i64 (l - 1))) ((w.setCell ⟨b, 2, none⟩ (.int .i64 (l - 1))).alloc (.cells zobj 25)) := (Below.refl _ _).alloc (Nat.le_refl _) _
  have HB1 := hide ((But.setCell b w 2 (.int .i64 (l - 1))).trans (But.of_below hb1))
  have HR1 := hide ((h.but (But.setCell b w 2 (.int .i64 (l - 1))) (h.rat.left1 (l - 1)) h.le).below hb1)
  have hsz : (w.setCell ⟨b, 2, none⟩ (.int .i64 (l - 1))).heap.size = w.heap.size := by simp [World.setCell]
  have HK1 : Hid (Blk ((w.setCell ⟨b, 2, none⟩ (.int .i64 (l - 1))).alloc (.cells zobj 25)) w.heap.size zobj 25) := hide (by
    have := Blk.new (w.setCell ⟨b, 2, none⟩ (.int .i64 (l - 1))) zobj 25
    rwa [hsz] at this)
  have hl3 : decide ((0 : Int) ≤ l - 1) = true := by simp; omega
  have hww : W0.heap.size ≤ w.heap.size := by have := h.hb; omega
  clear p0 p1 HW hb1 hsz h hA
  go_enter Tryz.func24, Tryz.ntmps24
  go_wp2_with fail
  have hszw : w.heap.size < ((w.setCell ⟨b, 2, none⟩ (.int .i64 (l - 1))).alloc (.cells zobj 25)).heap.size := by simp [World.setCell]
  generalize (w.setCell ⟨b, 2, none⟩ (.int .i64 (l - 1))).alloc (.cells zobj 25) = w1 at HB1 HR1 HK1 hszw ⊢
  clear c0 c1 c2 z0 z1 z2 hl3
  refine (CM.out _).mono ?_
  rintro e wm ⟨rfl, rfl⟩
  go_wp2_with fail
  refine (CP.out _ HR1.out).mono ?_
  rintro e w2 ⟨rfl, h1, h2⟩
  have HB2 := hide (HB1.out.trans h1)
  have HR2 := hide h2
  have HK2 := hide (HK1.out.but h1 (by omega))
  have hz2 : w.heap.size < w2.heap.size := Nat.lt_of_lt_of_le hszw h1.size
  clear h1 h2 HB1 HR1 HK1 hszw
  go_wp2_with fail
  have hb3 : Below w2.heap.size w2 (w2.alloc (.cells zobj 25)) := (Below.refl _ _).alloc (Nat.le_refl _) _
  have HB := hide (HB2.out.trans (But.of_below hb3))
  have HR := hide (HR2.out.below hb3)
  have HKa := hide (HK2.out.below hb3)
  have HKo := hide (Blk.new w2 zobj 25)
  obtain ⟨O, hO⟩ : ∃ O, w2.heap.size = O := ⟨_, rfl⟩
  rw [hO] at HKo hz2 ⊢
  generalize w2.alloc (.cells zobj 25) = w3 at HB HR HKa HKo ⊢
  have hbO : b ≠ O := by omega
  have hbR : b ≠ w.heap.size := by omega
  clear HB2 HR2 HK2 hb3 hO
  refine (CT.out ⟨#[60, 60]⟩ false _ HR.out (by decide) P0.out).mono ?_
  rintro e w4 ⟨rfl, h1, h2⟩
  have HB := hide (HB.out.trans h1)
  have HR : Hid (RC W0 b w4 s A (l - 1)) := hide h2
  have HKa := hide (HKa.out.but h1 hbR.symm)
  have HKo := hide (HKo.out.but h1 hbO.symm)
  clear h1 h2
  go_wp2_with fail
  refine (CT.out ⟨#[91]⟩ true _ HR.out (by decide) P1.out).mono ?_
  rintro e w5 ⟨rfl, h1, h2⟩
  have HB := hide (HB.out.trans h1)
  have HR : Hid (RC W0 b w5 s (A + 1) (l - 1)) := hide h2
  have HKa := hide (HKa.out.but h1 hbR.symm)
  have HKo := hide (HKo.out.but h1 hbO.symm)
  clear h1 h2
  go_wp2_with fail
  have hO5 : O < w5.heap.size := HKo.out.lt
  rcases R with _ | ⟨p, T, q, lq⟩
  · unfold CaR at CW
    simp only at CW
    refine (CW.out _ HR.out).mono ?_
    rintro e wW ⟨rfl, h1⟩
    exact ⟨rfl, rfl, HB.out.trans h1⟩
  unfold CaR at CW
  simp only at CW
  refine (CW.out _ HR.out).mono ?_
  rintro e wW ⟨⟨ka, kc, ia, ic, rfl, hin⟩, h1, h2⟩
  have HIN := hide hin
  have HB := hide (HB.out.trans h1)
  have HR := hide h2
  have HKa := hide (HKa.out.but h1 hbR.symm)
  have hko := HKo.out.but h1 hbO.symm
  have HKo := hide hko
  obtain ⟨⟨r0, r1, r2, r3, r4, r5⟩, ⟨y0, y1, y2, y3, y4, y5⟩⟩ := hko.six
  clear h1 h2 hko hin
  go_wp2_with fail
  clear r0 r1 r2 r3 r4 r5 y0 y1 y2 y3 y4 y5
  have HB : Hid (But b w ((((((wW.setCell ⟨O, 0, none⟩ (.int .i64 p.kind)).setCell ⟨O, 1, none⟩ (.bool p.flag)).setCell ⟨O, 2, none⟩ (.int .i64 p.num)).setCell ⟨O, 3, none⟩ (.string p.text)).setCell ⟨O, 4, none⟩ (.slice ka p.keys.length kc)).setCell ⟨O, 5, none⟩ (.slice ia (flen T) ic))) := hide (st6_but HB.out (Nat.le_of_lt hz2) (.int .i64 p.kind) (.bool p.flag) (.int .i64 p.num) (.string p.text) (.slice ka p.keys.length kc) (.slice ia (flen T) ic))
  have HR : Hid (RC W0 b ((((((wW.setCell ⟨O, 0, none⟩ (.int .i64 p.kind)).setCell ⟨O, 1, none⟩ (.bool p.flag)).setCell ⟨O, 2, none⟩ (.int .i64 p.num)).setCell ⟨O, 3, none⟩ (.string p.text)).setCell ⟨O, 4, none⟩ (.slice ka p.keys.length kc)).setCell ⟨O, 5, none⟩ (.slice ia (flen T) ic)) s q lq) := hide (HR.out.st6 hbO (by omega) (.int .i64 p.kind) (.bool p.flag) (.int .i64 p.num) (.string p.text) (.slice ka p.keys.length kc) (.slice ia (flen T) ic))
  have HKa : Hid (Blk ((((((wW.setCell ⟨O, 0, none⟩ (.int .i64 p.kind)).setCell ⟨O, 1, none⟩ (.bool p.flag)).setCell ⟨O, 2, none⟩ (.int .i64 p.num)).setCell ⟨O, 3, none⟩ (.string p.text)).setCell ⟨O, 4, none⟩ (.slice ka p.keys.length kc)).setCell ⟨O, 5, none⟩ (.slice ia (flen T) ic)) w.heap.size zobj 25) := hide ((st6_block (w := wW) (b := O) (k := w.heap.size) (Nat.ne_of_lt hz2) _ _ _ _ _ _).trans HKa.out)
  have HKo : Hid (Blk ((((((wW.setCell ⟨O, 0, none⟩ (.int .i64 p.kind)).setCell ⟨O, 1, none⟩ (.bool p.flag)).setCell ⟨O, 2, none⟩ (.int .i64 p.num)).setCell ⟨O, 3, none⟩ (.string p.text)).setCell ⟨O, 4, none⟩ (.slice ka p.keys.length kc)).setCell ⟨O, 5, none⟩ (.slice ia (flen T) ic)) O #[.int .i64 p.kind, .bool p.flag, .int .i64 p.num, .string p.text, .slice ka p.keys.length kc, .slice ia (flen T) ic] 25) := hide (st6_blk HKo.out (.int .i64 p.kind) (.bool p.flag) (.int .i64 p.num) (.string p.text) (.slice ka p.keys.length kc) (.slice ia (flen T) ic))
  have HIN : Hid (OIn (only (fun k => O < k) ((((((wW.setCell ⟨O, 0, none⟩ (.int .i64 p.kind)).setCell ⟨O, 1, none⟩ (.bool p.flag)).setCell ⟨O, 2, none⟩ (.int .i64 p.num)).setCell ⟨O, 3, none⟩ (.string p.text)).setCell ⟨O, 4, none⟩ (.slice ka p.keys.length kc)).setCell ⟨O, 5, none⟩ (.slice ia (flen T) ic))) p T ka kc ia ic) := hide (HIN.out.sub (only_sub (Nat.le_of_eq (st6_size _ _ _ _ _ _ _ _).symm) fun k h1 _ => ⟨Nat.lt_of_lt_of_le hO5 h1, st6_block (w := wW) (b := O) (k := k) (Nat.ne_of_gt (Nat.lt_of_lt_of_le hO5 h1)) _ _ _ _ _ _⟩))
  generalize ((((((wW.setCell ⟨O, 0, none⟩ (.int .i64 p.kind)).setCell ⟨O, 1, none⟩ (.bool p.flag)).setCell ⟨O, 2, none⟩ (.int .i64 p.num)).setCell ⟨O, 3, none⟩ (.string p.text)).setCell ⟨O, 4, none⟩ (.slice ka p.keys.length kc)).setCell ⟨O, 5, none⟩ (.slice ia (flen T) ic)) = wX at HB HR HKa HKo HIN ⊢
  have CF := hide (fits_any p T ka kc ia ic wX (HIN.out.sub (only_sub_all _ _)))
  obtain ⟨fl, hfl⟩ : ∃ fl, flatV p (flen T) = fl := ⟨_, rfl⟩
  rw [hfl] at CF
  have HFL := hide hfl
  clear hfl
  refine CF.out.mono ?_
  rintro e wY ⟨rfl, hf⟩
  have HIN := hide (HIN.out.sub (only_sub (S' := fun k => O < k) hf.size fun k h1 h2 => ⟨h1, hf.block k h2⟩))
  have HB := hide (HB.out.trans (But.of_below hf))
  have HR := hide (HR.out.below hf)
  have hka := HKa.out.below hf
  have hko := HKo.out.below hf
  have HKa := hide hka
  obtain ⟨⟨r0, r1, r2, r3, r4, r5⟩, ⟨y0, y1, y2, y3, y4, y5⟩⟩ := hka.six
  obtain ⟨⟨q0, q1, q2, q3, q4, q5⟩, _⟩ := hko.six
  clear hka hko hf
  cases fl
  · go_wp2_with fail
    refine (CMF.out _).mono ?_
    rintro e wm ⟨rfl, rfl⟩
    refine ⟨rfl, ?_⟩
    unfold ObF
    dsimp only
    rw [HFL.out, if_neg (by simp)]
    exact ⟨rfl, HB.out⟩
  · go_wp2_with fail
    refine (CM.out _).mono ?_
    rintro e wm ⟨rfl, rfl⟩
    go_wp2_with fail
    refine obj_fin (st6_blk HKa.out (.int .i64 p.kind) (.bool p.flag) (.int .i64 p.num) (.string p.text) (.slice ka p.keys.length kc) (.slice ia (flen T) ic)) (by rfl) (by rfl) ?_
    unfold ObF
    dsimp only
    rw [HFL.out, if_pos rfl]
    exact ⟨⟨ka, kc, ia, ic, rfl, HIN.out.sub (only_sub (Nat.le_of_eq (st6_size _ _ _ _ _ _ _ _).symm) fun k h1 _ => ⟨by omega, st6_block (w := wm) (b := w.heap.size) (k := k) (by omega) _ _ _ _ _ _⟩)⟩, st6_but HB.out (Nat.le_refl _) _ _ _ _ _ _, HR.out.st6 hbR hww _ _ _ _ _ _⟩
set_option maxRecDepth 8000 in
set_option maxHeartbeats 2000000 in
theorem ob_dict (W0 : World) (b : Nat) (s : ByteArray) (a : Nat) (l deep : Int) (w : World) (h : RC W0 b w s a l) (hs : s.size ≤ 16777216) (hl : 1 ≤ l) (hl2 : l ≤ 65536) (A : Nat) (hA : blanksV s.data.toList a = A)
    (p0 : Lib.hasPrefix (s.data.toList.drop A) [60, 60] = true) (R : Option (Pay × BT Pay × Nat × Int)) (HW : ∀ w', RC W0 b w' s (A + 2) (l - 1) → Calls Tryz.prog 43 #[.pointer (some ⟨b, 0, none⟩), .int .i64 deep] w' (CaR W0 b w' s R)) :
    Calls Tryz.prog 24 #[.pointer (some ⟨b, 0, none⟩), .int .i64 deep] w (ObF W0 b w s R) := by
  have hlt := h.lt
  obtain ⟨⟨c0, c1, c2⟩, z0, z1, z2⟩ := h.rat.three
  have CP := hide (fun w' (h' : RC W0 b w' s a (l - 1)) => pass_rc W0 b s a (l - 1) w' h' hs)
  rw [hA] at CP
  have CT := hide (fun p t w' (h' : RC W0 b w' s A (l - 1)) (hp : p.size ≤ 16) (ht : Lib.hasPrefix (s.data.toList.drop A) p.data.toList = t) => take_rc W0 b s p A (l - 1) w' h' hs hp t ht)
  have CW := hide HW
  have CM := hide must_t
  have CMF := hide must_f
  have HW0 := hide h.hb
  have P0 := hide p0
  have hb1 : Below (w.setCell ⟨b, 2, none⟩ (.int .i64 (l - 1))).heap.size (w.setCell ⟨b, 2, none⟩ (.int .i64 (l - 1))) ((w.setCell ⟨b, 2, none⟩ (.int .i64 (l - 1))).alloc (.cells zobj 25)) := (Below.refl _ _).alloc (Nat.le_refl _) _
  have HB1 := hide ((But.setCell b w 2 (.int .i64 (l - 1))).trans (But.of_below hb1))
  have HR1 := hide ((h.but (But.setCell b w 2 (.int .i64 (l - 1))) (h.rat.left1 (l - 1)) h.le).below hb1)
  have hsz : (w.setCell ⟨b, 2, none⟩ (.int .i64 (l - 1))).heap.size = w.heap.size := by simp [World.setCell]
  have HK1 : Hid (Blk ((w.setCell ⟨b, 2, none⟩ (.int .i64 (l - 1))).alloc (.cells zobj 25)) w.heap.size zobj 25) := hide (by
    have := Blk.new (w.setCell ⟨b, 2, none⟩ (.int .i64 (l - 1))) zobj 25
    rwa [hsz] at this)
  have hl3 : decide ((0 : Int) ≤ l - 1) = true := by simp; omega
  have hww : W0.heap.size ≤ w.heap.size := by have := h.hb; omega
  clear p0 HW hb1 hsz h hA
  go_enter Tryz.func24, Tryz.ntmps24
  go_wp2_with fail
  have hszw : w.heap.size < ((w.setCell ⟨b, 2, none⟩ (.int .i64 (l - 1))).alloc (.cells zobj 25)).heap.size := by simp [World.setCell]
  generalize (w.setCell ⟨b, 2, none⟩ (.int .i64 (l - 1))).alloc (.cells zobj 25) = w1 at HB1 HR1 HK1 hszw ⊢
  clear c0 c1 c2 z0 z1 z2 hl3
  refine (CM.out _).mono ?_
  rintro e wm ⟨rfl, rfl⟩
  go_wp2_with fail
  refine (CP.out _ HR1.out).mono ?_
  rintro e w2 ⟨rfl, h1, h2⟩
  have HB2 := hide (HB1.out.trans h1)
  have HR2 := hide h2
  have HK2 := hide (HK1.out.but h1 (by omega))
  have hz2 : w.heap.size < w2.heap.size := Nat.lt_of_lt_of_le hszw h1.size
  clear h1 h2 HB1 HR1 HK1 hszw
  go_wp2_with fail
  have hb3 : Below w2.heap.size w2 (w2.alloc (.cells zobj 25)) := (Below.refl _ _).alloc (Nat.le_refl _) _
  have HB := hide (HB2.out.trans (But.of_below hb3))
  have HR := hide (HR2.out.below hb3)
  have HKa := hide (HK2.out.below hb3)
  have HKo := hide (Blk.new w2 zobj 25)
  obtain ⟨O, hO⟩ : ∃ O, w2.heap.size = O := ⟨_, rfl⟩
  rw [hO] at HKo hz2 ⊢
  generalize w2.alloc (.cells zobj 25) = w3 at HB HR HKa HKo ⊢
  have hbO : b ≠ O := by omega
  have hbR : b ≠ w.heap.size := by omega
  clear HB2 HR2 HK2 hb3 hO
  refine (CT.out ⟨#[60, 60]⟩ true _ HR.out (by decide) P0.out).mono ?_
  rintro e w4 ⟨rfl, h1, h2⟩
  have HB := hide (HB.out.trans h1)
  have HR : Hid (RC W0 b w4 s (A + 2) (l - 1)) := hide h2
  have HKa := hide (HKa.out.but h1 hbR.symm)
  have HKo := hide (HKo.out.but h1 hbO.symm)
  clear h1 h2
  go_wp2_with fail
  have hO5 : O < w4.heap.size := HKo.out.lt
  rcases R with _ | ⟨p, T, q, lq⟩
  · unfold CaR at CW
    simp only at CW
    refine (CW.out _ HR.out).mono ?_
    rintro e wW ⟨rfl, h1⟩
    exact ⟨rfl, rfl, HB.out.trans h1⟩
  unfold CaR at CW
  simp only at CW
  refine (CW.out _ HR.out).mono ?_
  rintro e wW ⟨⟨ka, kc, ia, ic, rfl, hin⟩, h1, h2⟩
  have HIN := hide hin
  have HB := hide (HB.out.trans h1)
  have HR := hide h2
  have HKa := hide (HKa.out.but h1 hbR.symm)
  have hko := HKo.out.but h1 hbO.symm
  have HKo := hide hko
  obtain ⟨⟨r0, r1, r2, r3, r4, r5⟩, ⟨y0, y1, y2, y3, y4, y5⟩⟩ := hko.six
  clear h1 h2 hko hin
  go_wp2_with fail
  clear r0 r1 r2 r3 r4 r5 y0 y1 y2 y3 y4 y5
  have HB : Hid (But b w ((((((wW.setCell ⟨O, 0, none⟩ (.int .i64 p.kind)).setCell ⟨O, 1, none⟩ (.bool p.flag)).setCell ⟨O, 2, none⟩ (.int .i64 p.num)).setCell ⟨O, 3, none⟩ (.string p.text)).setCell ⟨O, 4, none⟩ (.slice ka p.keys.length kc)).setCell ⟨O, 5, none⟩ (.slice ia (flen T) ic))) := hide (st6_but HB.out (Nat.le_of_lt hz2) (.int .i64 p.kind) (.bool p.flag) (.int .i64 p.num) (.string p.text) (.slice ka p.keys.length kc) (.slice ia (flen T) ic))
  have HR : Hid (RC W0 b ((((((wW.setCell ⟨O, 0, none⟩ (.int .i64 p.kind)).setCell ⟨O, 1, none⟩ (.bool p.flag)).setCell ⟨O, 2, none⟩ (.int .i64 p.num)).setCell ⟨O, 3, none⟩ (.string p.text)).setCell ⟨O, 4, none⟩ (.slice ka p.keys.length kc)).setCell ⟨O, 5, none⟩ (.slice ia (flen T) ic)) s q lq) := hide (HR.out.st6 hbO (by omega) (.int .i64 p.kind) (.bool p.flag) (.int .i64 p.num) (.string p.text) (.slice ka p.keys.length kc) (.slice ia (flen T) ic))
  have HKa : Hid (Blk ((((((wW.setCell ⟨O, 0, none⟩ (.int .i64 p.kind)).setCell ⟨O, 1, none⟩ (.bool p.flag)).setCell ⟨O, 2, none⟩ (.int .i64 p.num)).setCell ⟨O, 3, none⟩ (.string p.text)).setCell ⟨O, 4, none⟩ (.slice ka p.keys.length kc)).setCell ⟨O, 5, none⟩ (.slice ia (flen T) ic)) w.heap.size zobj 25) := hide ((st6_block (w := wW) (b := O) (k := w.heap.size) (Nat.ne_of_lt hz2) _ _ _ _ _ _).trans HKa.out)
  have HKo : Hid (Blk ((((((wW.setCell ⟨O, 0, none⟩ (.int .i64 p.kind)).setCell ⟨O, 1, none⟩ (.bool p.flag)).setCell ⟨O, 2, none⟩ (.int .i64 p.num)).setCell ⟨O, 3, none⟩ (.string p.text)).setCell ⟨O, 4, none⟩ (.slice ka p.keys.length kc)).setCell ⟨O, 5, none⟩ (.slice ia (flen T) ic)) O #[.int .i64 p.kind, .bool p.flag, .int .i64 p.num, .string p.text, .slice ka p.keys.length kc, .slice ia (flen T) ic] 25) := hide (st6_blk HKo.out (.int .i64 p.kind) (.bool p.flag) (.int .i64 p.num) (.string p.text) (.slice ka p.keys.length kc) (.slice ia (flen T) ic))
  have HIN : Hid (OIn (only (fun k => O < k) ((((((wW.setCell ⟨O, 0, none⟩ (.int .i64 p.kind)).setCell ⟨O, 1, none⟩ (.bool p.flag)).setCell ⟨O, 2, none⟩ (.int .i64 p.num)).setCell ⟨O, 3, none⟩ (.string p.text)).setCell ⟨O, 4, none⟩ (.slice ka p.keys.length kc)).setCell ⟨O, 5, none⟩ (.slice ia (flen T) ic))) p T ka kc ia ic) := hide (HIN.out.sub (only_sub (Nat.le_of_eq (st6_size _ _ _ _ _ _ _ _).symm) fun k h1 _ => ⟨Nat.lt_of_lt_of_le hO5 h1, st6_block (w := wW) (b := O) (k := k) (Nat.ne_of_gt (Nat.lt_of_lt_of_le hO5 h1)) _ _ _ _ _ _⟩))
  generalize ((((((wW.setCell ⟨O, 0, none⟩ (.int .i64 p.kind)).setCell ⟨O, 1, none⟩ (.bool p.flag)).setCell ⟨O, 2, none⟩ (.int .i64 p.num)).setCell ⟨O, 3, none⟩ (.string p.text)).setCell ⟨O, 4, none⟩ (.slice ka p.keys.length kc)).setCell ⟨O, 5, none⟩ (.slice ia (flen T) ic)) = wX at HB HR HKa HKo HIN ⊢
  have CF := hide (fits_any p T ka kc ia ic wX (HIN.out.sub (only_sub_all _ _)))
  obtain ⟨fl, hfl⟩ : ∃ fl, flatV p (flen T) = fl := ⟨_, rfl⟩
  rw [hfl] at CF
  have HFL := hide hfl
  clear hfl
  refine CF.out.mono ?_
  rintro e wY ⟨rfl, hf⟩
  have HIN := hide (HIN.out.sub (only_sub (S' := fun k => O < k) hf.size fun k h1 h2 => ⟨h1, hf.block k h2⟩))
  have HB := hide (HB.out.trans (But.of_below hf))
  have HR := hide (HR.out.below hf)
  have hka := HKa.out.below hf
  have hko := HKo.out.below hf
  have HKa := hide hka
  obtain ⟨⟨r0, r1, r2, r3, r4, r5⟩, ⟨y0, y1, y2, y3, y4, y5⟩⟩ := hka.six
  obtain ⟨⟨q0, q1, q2, q3, q4, q5⟩, _⟩ := hko.six
  clear hka hko hf
  cases fl
  · go_wp2_with fail
    refine (CMF.out _).mono ?_
    rintro e wm ⟨rfl, rfl⟩
    refine ⟨rfl, ?_⟩
    unfold ObF
    dsimp only
    rw [HFL.out, if_neg (by simp)]
    exact ⟨rfl, HB.out⟩
  · go_wp2_with fail
    refine (CM.out _).mono ?_
    rintro e wm ⟨rfl, rfl⟩
    go_wp2_with fail
    refine obj_fin (st6_blk HKa.out (.int .i64 p.kind) (.bool p.flag) (.int .i64 p.num) (.string p.text) (.slice ka p.keys.length kc) (.slice ia (flen T) ic)) (by rfl) (by rfl) ?_
    unfold ObF
    dsimp only
    rw [HFL.out, if_pos rfl]
    exact ⟨⟨ka, kc, ia, ic, rfl, HIN.out.sub (only_sub (Nat.le_of_eq (st6_size _ _ _ _ _ _ _ _).symm) fun k h1 _ => ⟨by omega, st6_block (w := wm) (b := w.heap.size) (k := k) (by omega) _ _ _ _ _ _⟩)⟩, st6_but HB.out (Nat.le_refl _) _ _ _ _ _ _, HR.out.st6 hbR hww _ _ _ _ _ _⟩
set_option maxRecDepth 8000 in
set_option maxHeartbeats 2000000 in
theorem ob_hex (W0 : World) (b : Nat) (s : ByteArray) (a : Nat) (l deep : Int) (w : World) (h : RC W0 b w s a l) (hs : s.size ≤ 16777216) (hl : 1 ≤ l) (hl2 : l ≤ 65536) (A : Nat) (hA : blanksV s.data.toList a = A)
    (p0 : Lib.hasPrefix (s.data.toList.drop A) [60, 60] = false) (p1 : Lib.hasPrefix (s.data.toList.drop A) [91] = false) (p2 : Lib.hasPrefix (s.data.toList.drop A) [60] = true) (R : Option (List UInt8 × Nat)) (hq2 : ∀ q, R = some q → q.1.length ≤ 9223372036854775807) (HW : ∀ w', RC W0 b w' s (A + 1) (l - 1) → Calls Tryz.prog 45 #[.pointer (some ⟨b, 0, none⟩)] w' (TxR W0 b w' s (l - 1) R)) :
    Calls Tryz.prog 24 #[.pointer (some ⟨b, 0, none⟩), .int .i64 deep] w (ObF W0 b w s (R.map fun q => (tp 5 q.1, BT.nil, q.2, l - 1))) := by
  have hlt := h.lt
  obtain ⟨⟨c0, c1, c2⟩, z0, z1, z2⟩ := h.rat.three
  have CP := hide (fun w' (h' : RC W0 b w' s a (l - 1)) => pass_rc W0 b s a (l - 1) w' h' hs)
  rw [hA] at CP
  have CT := hide (fun p t w' (h' : RC W0 b w' s A (l - 1)) (hp : p.size ≤ 16) (ht : Lib.hasPrefix (s.data.toList.drop A) p.data.toList = t) => take_rc W0 b s p A (l - 1) w' h' hs hp t ht)
  have CW := hide HW
  have CM := hide must_t
  have CMF := hide must_f
  have HW0 := hide h.hb
  have P0 := hide p0
  have P1 := hide p1
  have P2 := hide p2
  have hb1 : Below (w.setCell ⟨b, 2, none⟩ (.int .i64 (l - 1))).heap.size (w.setCell ⟨b, 2, none⟩ (.int .i64 (l - 1))) ((w.setCell ⟨b, 2, none⟩ (.int .i64 (l - 1))).alloc (.cells zobj 25)) := (Below.refl _ _).alloc (Nat.le_refl _) _
  have HB1 := hide ((But.setCell b w 2 (.int .i64 (l - 1))).trans (But.of_below hb1))
  have HR1 := hide ((h.but (But.setCell b w 2 (.int .i64 (l - 1))) (h.rat.left1 (l - 1)) h.le).below hb1)
  have hsz : (w.setCell ⟨b, 2, none⟩ (.int .i64 (l - 1))).heap.size = w.heap.size := by simp [World.setCell]
  have HK1 : Hid (Blk ((w.setCell ⟨b, 2, none⟩ (.int .i64 (l - 1))).alloc (.cells zobj 25)) w.heap.size zobj 25) := hide (by
    have := Blk.new (w.setCell ⟨b, 2, none⟩ (.int .i64 (l - 1))) zobj 25
    rwa [hsz] at this)
  have hl3 : decide ((0 : Int) ≤ l - 1) = true := by simp; omega
  have hww : W0.heap.size ≤ w.heap.size := by have := h.hb; omega
  clear p0 p1 p2 HW hb1 hsz h hA
  go_enter Tryz.func24, Tryz.ntmps24
  go_wp2_with fail
  have hszw : w.heap.size < ((w.setCell ⟨b, 2, none⟩ (.int .i64 (l - 1))).alloc (.cells zobj 25)).heap.size := by simp [World.setCell]
  generalize (w.setCell ⟨b, 2, none⟩ (.int .i64 (l - 1))).alloc (.cells zobj 25) = w1 at HB1 HR1 HK1 hszw ⊢
  clear c0 c1 c2 z0 z1 z2 hl3
  refine (CM.out _).mono ?_
  rintro e wm ⟨rfl, rfl⟩
  go_wp2_with fail
  refine (CP.out _ HR1.out).mono ?_
  rintro e w2 ⟨rfl, h1, h2⟩
  have HB2 := hide (HB1.out.trans h1)
  have HR2 := hide h2
  have HK2 := hide (HK1.out.but h1 (by omega))
  have hz2 : w.heap.size < w2.heap.size := Nat.lt_of_lt_of_le hszw h1.size
  clear h1 h2 HB1 HR1 HK1 hszw
  go_wp2_with fail
  have hb3 : Below w2.heap.size w2 (w2.alloc (.cells zobj 25)) := (Below.refl _ _).alloc (Nat.le_refl _) _
  have HB := hide (HB2.out.trans (But.of_below hb3))
  have HR := hide (HR2.out.below hb3)
  have HKa := hide (HK2.out.below hb3)
  have HKo := hide (Blk.new w2 zobj 25)
  obtain ⟨O, hO⟩ : ∃ O, w2.heap.size = O := ⟨_, rfl⟩
  rw [hO] at HKo hz2 ⊢
  generalize w2.alloc (.cells zobj 25) = w3 at HB HR HKa HKo ⊢
  have hbO : b ≠ O := by omega
  have hbR : b ≠ w.heap.size := by omega
  clear HB2 HR2 HK2 hb3 hO
  refine (CT.out ⟨#[60, 60]⟩ false _ HR.out (by decide) P0.out).mono ?_
  rintro e w4 ⟨rfl, h1, h2⟩
  have HB := hide (HB.out.trans h1)
  have HR : Hid (RC W0 b w4 s A (l - 1)) := hide h2
  have HKa := hide (HKa.out.but h1 hbR.symm)
  have HKo := hide (HKo.out.but h1 hbO.symm)
  clear h1 h2
  go_wp2_with fail
  refine (CT.out ⟨#[91]⟩ false _ HR.out (by decide) P1.out).mono ?_
  rintro e w5 ⟨rfl, h1, h2⟩
  have HB := hide (HB.out.trans h1)
  have HR : Hid (RC W0 b w5 s A (l - 1)) := hide h2
  have HKa := hide (HKa.out.but h1 hbR.symm)
  have HKo := hide (HKo.out.but h1 hbO.symm)
  clear h1 h2
  go_wp2_with fail
  refine (CT.out ⟨#[60]⟩ true _ HR.out (by decide) P2.out).mono ?_
  rintro e w6 ⟨rfl, h1, h2⟩
  have HB := hide (HB.out.trans h1)
  have HR : Hid (RC W0 b w6 s (A + 1) (l - 1)) := hide h2
  have HKa := hide (HKa.out.but h1 hbR.symm)
  have HKo := hide (HKo.out.but h1 hbO.symm)
  clear h1 h2
  go_wp2_with fail
  have hO5 : O < w6.heap.size := HKo.out.lt
  rcases R with _ | ⟨t, q⟩
  · unfold TxR at CW
    simp only at CW
    refine (CW.out _ HR.out).mono ?_
    rintro e wW ⟨rfl, h1⟩
    exact ⟨rfl, rfl, HB.out.trans h1⟩
  unfold TxR at CW
  simp only at CW
  have hq := hq2 _ rfl
  simp only at hq
  clear hq2
  obtain ⟨tx, htx⟩ : ∃ tx : ByteArray, tx = ⟨t.toArray⟩ := ⟨_, rfl⟩
  rw [← htx] at CW
  have HTX := hide htx
  clear htx
  refine (CW.out _ HR.out).mono ?_
  rintro e wW ⟨rfl, h1, h2⟩
  have HB := hide (HB.out.trans h1)
  have HR := hide h2
  have HKa := hide (HKa.out.but h1 hbR.symm)
  have hko := HKo.out.but h1 hbO.symm
  have HKo := hide hko
  obtain ⟨⟨r0, r1, r2, r3, r4, r5⟩, ⟨y0, y1, y2, y3, y4, y5⟩⟩ := hko.six
  clear h1 h2 hko
  go_wp2_with fail
  clear r0 r1 r2 r3 r4 r5 y0 y1 y2 y3 y4 y5
  have HB : Hid (But b w ((((((wW.setCell ⟨O, 0, none⟩ (.int .i64 5)).setCell ⟨O, 1, none⟩ (.bool false)).setCell ⟨O, 2, none⟩ (.int .i64 0)).setCell ⟨O, 3, none⟩ (.string tx)).setCell ⟨O, 4, none⟩ (.slice none 0 0)).setCell ⟨O, 5, none⟩ (.slice none 0 0))) := hide (st6_but HB.out (Nat.le_of_lt hz2) (.int .i64 5) (.bool false) (.int .i64 0) (.string tx) (.slice none 0 0) (.slice none 0 0))
  have HR : Hid (RC W0 b ((((((wW.setCell ⟨O, 0, none⟩ (.int .i64 5)).setCell ⟨O, 1, none⟩ (.bool false)).setCell ⟨O, 2, none⟩ (.int .i64 0)).setCell ⟨O, 3, none⟩ (.string tx)).setCell ⟨O, 4, none⟩ (.slice none 0 0)).setCell ⟨O, 5, none⟩ (.slice none 0 0)) s q (l - 1)) := hide (HR.out.st6 hbO (by omega) (.int .i64 5) (.bool false) (.int .i64 0) (.string tx) (.slice none 0 0) (.slice none 0 0))
  have HKa : Hid (Blk ((((((wW.setCell ⟨O, 0, none⟩ (.int .i64 5)).setCell ⟨O, 1, none⟩ (.bool false)).setCell ⟨O, 2, none⟩ (.int .i64 0)).setCell ⟨O, 3, none⟩ (.string tx)).setCell ⟨O, 4, none⟩ (.slice none 0 0)).setCell ⟨O, 5, none⟩ (.slice none 0 0)) w.heap.size zobj 25) := hide ((st6_block (w := wW) (b := O) (k := w.heap.size) (Nat.ne_of_lt hz2) _ _ _ _ _ _).trans HKa.out)
  have HKo : Hid (Blk ((((((wW.setCell ⟨O, 0, none⟩ (.int .i64 5)).setCell ⟨O, 1, none⟩ (.bool false)).setCell ⟨O, 2, none⟩ (.int .i64 0)).setCell ⟨O, 3, none⟩ (.string tx)).setCell ⟨O, 4, none⟩ (.slice none 0 0)).setCell ⟨O, 5, none⟩ (.slice none 0 0)) O #[.int .i64 5, .bool false, .int .i64 0, .string tx, .slice none 0 0, .slice none 0 0] 25) := hide (st6_blk HKo.out (.int .i64 5) (.bool false) (.int .i64 0) (.string tx) (.slice none 0 0) (.slice none 0 0))
  generalize ((((((wW.setCell ⟨O, 0, none⟩ (.int .i64 5)).setCell ⟨O, 1, none⟩ (.bool false)).setCell ⟨O, 2, none⟩ (.int .i64 0)).setCell ⟨O, 3, none⟩ (.string tx)).setCell ⟨O, 4, none⟩ (.slice none 0 0)).setCell ⟨O, 5, none⟩ (.slice none 0 0)) = wX at HB HR HKa HKo ⊢
  have hpok : Pay.ok (tp 5 t) := ⟨⟨by simp, by simp⟩, ⟨by simp, by simp⟩, by rw [show ((tp 5 t).text).size = t.length by simp [ByteArray.size]]; exact hq, by simp⟩
  have CF := fits_any (tp 5 t) .nil none 0 none 0 wX (oin_leaf wX _ hpok rfl)
  rw [show ov (tp 5 t) none 0 none (flen .nil) 0 = .agg #[.int .i64 5, .bool false, .int .i64 0, .string tx, .slice none 0 0, .slice none 0 0] by rw [HTX.out]; rfl] at CF
  have CF := hide CF
  obtain ⟨fl, hfl⟩ : ∃ fl, flatV (tp 5 t) (flen .nil) = fl := ⟨_, rfl⟩
  rw [hfl] at CF
  have HOK := hide hpok
  have HFL := hide hfl
  clear hfl
  refine CF.out.mono ?_
  rintro e wY ⟨rfl, hf⟩
  have HB := hide (HB.out.trans (But.of_below hf))
  have HR := hide (HR.out.below hf)
  have hka := HKa.out.below hf
  have hko := HKo.out.below hf
  have HKa := hide hka
  obtain ⟨⟨r0, r1, r2, r3, r4, r5⟩, ⟨y0, y1, y2, y3, y4, y5⟩⟩ := hka.six
  obtain ⟨⟨q0, q1, q2, q3, q4, q5⟩, _⟩ := hko.six
  clear hka hko hf
  cases fl
  · go_wp2_with fail
    refine (CMF.out _).mono ?_
    rintro e wm ⟨rfl, rfl⟩
    refine ⟨rfl, ?_⟩
    show ObF W0 b w s (some (tp 5 t, BT.nil, q, l - 1)) _ _
    unfold ObF
    dsimp only
    rw [HFL.out, if_neg (by simp)]
    exact ⟨rfl, HB.out⟩
  · go_wp2_with fail
    refine (CM.out _).mono ?_
    rintro e wm ⟨rfl, rfl⟩
    go_wp2_with fail
    refine obj_fin (st6_blk HKa.out (.int .i64 5) (.bool false) (.int .i64 0) (.string tx) (.slice none 0 0) (.slice none 0 0)) (by rfl) (by rfl) ?_
    show ObF W0 b w s (some (tp 5 t, BT.nil, q, l - 1)) _ _
    unfold ObF
    dsimp only
    rw [HFL.out, if_pos rfl]
    exact ⟨⟨none, 0, none, 0, by rw [HTX.out]; rfl, oin_leaf _ _ HOK.out rfl⟩, st6_but HB.out (Nat.le_refl _) _ _ _ _ _ _, HR.out.st6 hbR hww _ _ _ _ _ _⟩
set_option maxRecDepth 8000 in
set_option maxHeartbeats 2000000 in
theorem ob_plain (W0 : World) (b : Nat) (s : ByteArray) (a : Nat) (l deep : Int) (w : World) (h : RC W0 b w s a l) (hs : s.size ≤ 16777216) (hl : 1 ≤ l) (hl2 : l ≤ 65536) (A : Nat) (hA : blanksV s.data.toList a = A)
    (p0 : Lib.hasPrefix (s.data.toList.drop A) [60, 60] = false) (p1 : Lib.hasPrefix (s.data.toList.drop A) [91] = false) (p2 : Lib.hasPrefix (s.data.toList.drop A) [60] = false) (p3 : Lib.hasPrefix (s.data.toList.drop A) [40] = true) (R : Option (List UInt8 × Nat)) (hq2 : ∀ q, R = some q → q.1.length ≤ 9223372036854775807) (HW : ∀ w', RC W0 b w' s (A + 1) (l - 1) → Calls Tryz.prog 46 #[.pointer (some ⟨b, 0, none⟩)] w' (TxR W0 b w' s (l - 1) R)) :
    Calls Tryz.prog 24 #[.pointer (some ⟨b, 0, none⟩), .int .i64 deep] w (ObF W0 b w s (R.map fun q => (tp 5 q.1, BT.nil, q.2, l - 1))) := by
  have hlt := h.lt
  obtain ⟨⟨c0, c1, c2⟩, z0, z1, z2⟩ := h.rat.three
  have CP := hide (fun w' (h' : RC W0 b w' s a (l - 1)) => pass_rc W0 b s a (l - 1) w' h' hs)
  rw [hA] at CP
  have CT := hide (fun p t w' (h' : RC W0 b w' s A (l - 1)) (hp : p.size ≤ 16) (ht : Lib.hasPrefix (s.data.toList.drop A) p.data.toList = t) => take_rc W0 b s p A (l - 1) w' h' hs hp t ht)
  have CW := hide HW
  have CM := hide must_t
  have CMF := hide must_f
  have HW0 := hide h.hb
  have P0 := hide p0
  have P1 := hide p1
  have P2 := hide p2
  have P3 := hide p3
  have hb1 : Below (w.setCell ⟨b, 2, none⟩ (.int .i64 (l - 1))).heap.size (w.setCell ⟨b, 2, none⟩ (.int .i64 (l - 1))) ((w.setCell ⟨b, 2, none⟩ (.int .i64 (l - 1))).alloc (.cells zobj 25)) := (Below.refl _ _).alloc (Nat.le_refl _) _
  have HB1 := hide ((But.setCell b w 2 (.int .i64 (l - 1))).trans (But.of_below hb1))
  have HR1 := hide ((h.but (But.setCell b w 2 (.int .i64 (l - 1))) (h.rat.left1 (l - 1)) h.le).below hb1)
  have hsz : (w.setCell ⟨b, 2, none⟩ (.int .i64 (l - 1))).heap.size = w.heap.size := by simp [World.setCell]
  have HK1 : Hid (Blk ((w.setCell ⟨b, 2, none⟩ (.int .i64 (l - 1))).alloc (.cells zobj 25)) w.heap.size zobj 25) := hide (by
    have := Blk.new (w.setCell ⟨b, 2, none⟩ (.int .i64 (l - 1))) zobj 25
    rwa [hsz] at this)
  have hl3 : decide ((0 : Int) ≤ l - 1) = true := by simp; omega
  have hww : W0.heap.size ≤ w.heap.size := by have := h.hb; omega
  clear p0 p1 p2 p3 HW hb1 hsz h hA
  go_enter Tryz.func24, Tryz.ntmps24
  go_wp2_with fail
  have hszw : w.heap.size < ((w.setCell ⟨b, 2, none⟩ (.int .i64 (l - 1))).alloc (.cells zobj 25)).heap.size := by simp [World.setCell]
  generalize (w.setCell ⟨b, 2, none⟩ (.int .i64 (l - 1))).alloc (.cells zobj 25) = w1 at HB1 HR1 HK1 hszw ⊢
  clear c0 c1 c2 z0 z1 z2 hl3
  refine (CM.out _).mono ?_
  rintro e wm ⟨rfl, rfl⟩
  go_wp2_with fail
  refine (CP.out _ HR1.out).mono ?_
  rintro e w2 ⟨rfl, h1, h2⟩
  have HB2 := hide (HB1.out.trans h1)
  have HR2 := hide h2
  have HK2 := hide (HK1.out.but h1 (by omega))
  have hz2 : w.heap.size < w2.heap.size := Nat.lt_of_lt_of_le hszw h1.size
  clear h1 h2 HB1 HR1 HK1 hszw
  go_wp2_with fail
  have hb3 : Below w2.heap.size w2 (w2.alloc (.cells zobj 25)) := (Below.refl _ _).alloc (Nat.le_refl _) _
  have HB := hide (HB2.out.trans (But.of_below hb3))
  have HR := hide (HR2.out.below hb3)
  have HKa := hide (HK2.out.below hb3)
  have HKo := hide (Blk.new w2 zobj 25)
  obtain ⟨O, hO⟩ : ∃ O, w2.heap.size = O := ⟨_, rfl⟩
  rw [hO] at HKo hz2 ⊢
  generalize w2.alloc (.cells zobj 25) = w3 at HB HR HKa HKo ⊢
  have hbO : b ≠ O := by omega
  have hbR : b ≠ w.heap.size := by omega
  clear HB2 HR2 HK2 hb3 hO
  refine (CT.out ⟨#[60, 60]⟩ false _ HR.out (by decide) P0.out).mono ?_
  rintro e w4 ⟨rfl, h1, h2⟩
  have HB := hide (HB.out.trans h1)
  have HR : Hid (RC W0 b w4 s A (l - 1)) := hide h2
  have HKa := hide (HKa.out.but h1 hbR.symm)
  have HKo := hide (HKo.out.but h1 hbO.symm)
  clear h1 h2
  go_wp2_with fail
  refine (CT.out ⟨#[91]⟩ false _ HR.out (by decide) P1.out).mono ?_
  rintro e w5 ⟨rfl, h1, h2⟩
  have HB := hide (HB.out.trans h1)
  have HR : Hid (RC W0 b w5 s A (l - 1)) := hide h2
  have HKa := hide (HKa.out.but h1 hbR.symm)
  have HKo := hide (HKo.out.but h1 hbO.symm)
  clear h1 h2
  go_wp2_with fail
  refine (CT.out ⟨#[60]⟩ false _ HR.out (by decide) P2.out).mono ?_
  rintro e w6 ⟨rfl, h1, h2⟩
  have HB := hide (HB.out.trans h1)
  have HR : Hid (RC W0 b w6 s A (l - 1)) := hide h2
  have HKa := hide (HKa.out.but h1 hbR.symm)
  have HKo := hide (HKo.out.but h1 hbO.symm)
  clear h1 h2
  go_wp2_with fail
  refine (CT.out ⟨#[40]⟩ true _ HR.out (by decide) P3.out).mono ?_
  rintro e w7 ⟨rfl, h1, h2⟩
  have HB := hide (HB.out.trans h1)
  have HR : Hid (RC W0 b w7 s (A + 1) (l - 1)) := hide h2
  have HKa := hide (HKa.out.but h1 hbR.symm)
  have HKo := hide (HKo.out.but h1 hbO.symm)
  clear h1 h2
  go_wp2_with fail
  have hO5 : O < w7.heap.size := HKo.out.lt
  rcases R with _ | ⟨t, q⟩
  · unfold TxR at CW
    simp only at CW
    refine (CW.out _ HR.out).mono ?_
    rintro e wW ⟨rfl, h1⟩
    exact ⟨rfl, rfl, HB.out.trans h1⟩
  unfold TxR at CW
  simp only at CW
  have hq := hq2 _ rfl
  simp only at hq
  clear hq2
  obtain ⟨tx, htx⟩ : ∃ tx : ByteArray, tx = ⟨t.toArray⟩ := ⟨_, rfl⟩
  rw [← htx] at CW
  have HTX := hide htx
  clear htx
  refine (CW.out _ HR.out).mono ?_
  rintro e wW ⟨rfl, h1, h2⟩
  have HB := hide (HB.out.trans h1)
  have HR := hide h2
  have HKa := hide (HKa.out.but h1 hbR.symm)
  have hko := HKo.out.but h1 hbO.symm
  have HKo := hide hko
  obtain ⟨⟨r0, r1, r2, r3, r4, r5⟩, ⟨y0, y1, y2, y3, y4, y5⟩⟩ := hko.six
  clear h1 h2 hko
  go_wp2_with fail
  clear r0 r1 r2 r3 r4 r5 y0 y1 y2 y3 y4 y5
  have HB : Hid (But b w ((((((wW.setCell ⟨O, 0, none⟩ (.int .i64 5)).setCell ⟨O, 1, none⟩ (.bool false)).setCell ⟨O, 2, none⟩ (.int .i64 0)).setCell ⟨O, 3, none⟩ (.string tx)).setCell ⟨O, 4, none⟩ (.slice none 0 0)).setCell ⟨O, 5, none⟩ (.slice none 0 0))) := hide (st6_but HB.out (Nat.le_of_lt hz2) (.int .i64 5) (.bool false) (.int .i64 0) (.string tx) (.slice none 0 0) (.slice none 0 0))
  have HR : Hid (RC W0 b ((((((wW.setCell ⟨O, 0, none⟩ (.int .i64 5)).setCell ⟨O, 1, none⟩ (.bool false)).setCell ⟨O, 2, none⟩ (.int .i64 0)).setCell ⟨O, 3, none⟩ (.string tx)).setCell ⟨O, 4, none⟩ (.slice none 0 0)).setCell ⟨O, 5, none⟩ (.slice none 0 0)) s q (l - 1)) := hide (HR.out.st6 hbO (by omega) (.int .i64 5) (.bool false) (.int .i64 0) (.string tx) (.slice none 0 0) (.slice none 0 0))
  have HKa : Hid (Blk ((((((wW.setCell ⟨O, 0, none⟩ (.int .i64 5)).setCell ⟨O, 1, none⟩ (.bool false)).setCell ⟨O, 2, none⟩ (.int .i64 0)).setCell ⟨O, 3, none⟩ (.string tx)).setCell ⟨O, 4, none⟩ (.slice none 0 0)).setCell ⟨O, 5, none⟩ (.slice none 0 0)) w.heap.size zobj 25) := hide ((st6_block (w := wW) (b := O) (k := w.heap.size) (Nat.ne_of_lt hz2) _ _ _ _ _ _).trans HKa.out)
  have HKo : Hid (Blk ((((((wW.setCell ⟨O, 0, none⟩ (.int .i64 5)).setCell ⟨O, 1, none⟩ (.bool false)).setCell ⟨O, 2, none⟩ (.int .i64 0)).setCell ⟨O, 3, none⟩ (.string tx)).setCell ⟨O, 4, none⟩ (.slice none 0 0)).setCell ⟨O, 5, none⟩ (.slice none 0 0)) O #[.int .i64 5, .bool false, .int .i64 0, .string tx, .slice none 0 0, .slice none 0 0] 25) := hide (st6_blk HKo.out (.int .i64 5) (.bool false) (.int .i64 0) (.string tx) (.slice none 0 0) (.slice none 0 0))
  generalize ((((((wW.setCell ⟨O, 0, none⟩ (.int .i64 5)).setCell ⟨O, 1, none⟩ (.bool false)).setCell ⟨O, 2, none⟩ (.int .i64 0)).setCell ⟨O, 3, none⟩ (.string tx)).setCell ⟨O, 4, none⟩ (.slice none 0 0)).setCell ⟨O, 5, none⟩ (.slice none 0 0)) = wX at HB HR HKa HKo ⊢
  have hpok : Pay.ok (tp 5 t) := ⟨⟨by simp, by simp⟩, ⟨by simp, by simp⟩, by rw [show ((tp 5 t).text).size = t.length by simp [ByteArray.size]]; exact hq, by simp⟩
  have CF := fits_any (tp 5 t) .nil none 0 none 0 wX (oin_leaf wX _ hpok rfl)
  rw [show ov (tp 5 t) none 0 none (flen .nil) 0 = .agg #[.int .i64 5, .bool false, .int .i64 0, .string tx, .slice none 0 0, .slice none 0 0] by rw [HTX.out]; rfl] at CF
  have CF := hide CF
  obtain ⟨fl, hfl⟩ : ∃ fl, flatV (tp 5 t) (flen .nil) = fl := ⟨_, rfl⟩
  rw [hfl] at CF
  have HOK := hide hpok
  have HFL := hide hfl
  clear hfl
  refine CF.out.mono ?_
  rintro e wY ⟨rfl, hf⟩
  have HB := hide (HB.out.trans (But.of_below hf))
  have HR := hide (HR.out.below hf)
  have hka := HKa.out.below hf
  have hko := HKo.out.below hf
  have HKa := hide hka
  obtain ⟨⟨r0, r1, r2, r3, r4, r5⟩, ⟨y0, y1, y2, y3, y4, y5⟩⟩ := hka.six
  obtain ⟨⟨q0, q1, q2, q3, q4, q5⟩, _⟩ := hko.six
  clear hka hko hf
  cases fl
  · go_wp2_with fail
    refine (CMF.out _).mono ?_
    rintro e wm ⟨rfl, rfl⟩
    refine ⟨rfl, ?_⟩
    show ObF W0 b w s (some (tp 5 t, BT.nil, q, l - 1)) _ _
    unfold ObF
    dsimp only
    rw [HFL.out, if_neg (by simp)]
    exact ⟨rfl, HB.out⟩
  · go_wp2_with fail
    refine (CM.out _).mono ?_
    rintro e wm ⟨rfl, rfl⟩
    go_wp2_with fail
    refine obj_fin (st6_blk HKa.out (.int .i64 5) (.bool false) (.int .i64 0) (.string tx) (.slice none 0 0) (.slice none 0 0)) (by rfl) (by rfl) ?_
    show ObF W0 b w s (some (tp 5 t, BT.nil, q, l - 1)) _ _
    unfold ObF
    dsimp only
    rw [HFL.out, if_pos rfl]
    exact ⟨⟨none, 0, none, 0, by rw [HTX.out]; rfl, oin_leaf _ _ HOK.out rfl⟩, st6_but HB.out (Nat.le_refl _) _ _ _ _ _ _, HR.out.st6 hbR hww _ _ _ _ _ _⟩
set_option maxRecDepth 8000 in
set_option maxHeartbeats 2000000 in
theorem ob_name (W0 : World) (b : Nat) (s : ByteArray) (a : Nat) (l deep : Int) (w : World) (h : RC W0 b w s a l) (hs : s.size ≤ 16777216) (hl : 1 ≤ l) (hl2 : l ≤ 65536) (A : Nat) (hA : blanksV s.data.toList a = A)
    (p0 : Lib.hasPrefix (s.data.toList.drop A) [60, 60] = false) (p1 : Lib.hasPrefix (s.data.toList.drop A) [91] = false) (p2 : Lib.hasPrefix (s.data.toList.drop A) [60] = false) (p3 : Lib.hasPrefix (s.data.toList.drop A) [40] = false) (p4 : Lib.hasPrefix (s.data.toList.drop A) [47] = true) (R : Option (List UInt8 × Nat)) (hq2 : ∀ q, R = some q → q.1.length ≤ 9223372036854775807) (HW : ∀ w', RC W0 b w' s (A + 1) (l - 1) → Calls Tryz.prog 47 #[.pointer (some ⟨b, 0, none⟩)] w' (TxR W0 b w' s (l - 1) R)) :
    Calls Tryz.prog 24 #[.pointer (some ⟨b, 0, none⟩), .int .i64 deep] w (ObF W0 b w s (R.map fun q => (tp 4 q.1, BT.nil, q.2, l - 1))) := by
  have hlt := h.lt
  obtain ⟨⟨c0, c1, c2⟩, z0, z1, z2⟩ := h.rat.three
  have CP := hide (fun w' (h' : RC W0 b w' s a (l - 1)) => pass_rc W0 b s a (l - 1) w' h' hs)
  rw [hA] at CP
  have CT := hide (fun p t w' (h' : RC W0 b w' s A (l - 1)) (hp : p.size ≤ 16) (ht : Lib.hasPrefix (s.data.toList.drop A) p.data.toList = t) => take_rc W0 b s p A (l - 1) w' h' hs hp t ht)
  have CW := hide HW
  have CM := hide must_t
  have CMF := hide must_f
  have HW0 := hide h.hb
  have P0 := hide p0
  have P1 := hide p1
  have P2 := hide p2
  have P3 := hide p3
  have P4 := hide p4
  have hb1 : Below (w.setCell ⟨b, 2, none⟩ (.int .i64 (l - 1))).heap.size (w.setCell ⟨b, 2, none⟩ (.int .i64 (l - 1))) ((w.setCell ⟨b, 2, none⟩ (.int .i64 (l - 1))).alloc (.cells zobj 25)) := (Below.refl _ _).alloc (Nat.le_refl _) _
  have HB1 := hide ((But.setCell b w 2 (.int .i64 (l - 1))).trans (But.of_below hb1))
  have HR1 := hide ((h.but (But.setCell b w 2 (.int .i64 (l - 1))) (h.rat.left1 (l - 1)) h.le).below hb1)
  have hsz : (w.setCell ⟨b, 2, none⟩ (.int .i64 (l - 1))).heap.size = w.heap.size := by simp [World.setCell]
  have HK1 : Hid (Blk ((w.setCell ⟨b, 2, none⟩ (.int .i64 (l - 1))).alloc (.cells zobj 25)) w.heap.size zobj 25) := hide (by
    have := Blk.new (w.setCell ⟨b, 2, none⟩ (.int .i64 (l - 1))) zobj 25
    rwa [hsz] at this)
  have hl3 : decide ((0 : Int) ≤ l - 1) = true := by simp; omega
  have hww : W0.heap.size ≤ w.heap.size := by have := h.hb; omega
  clear p0 p1 p2 p3 p4 HW hb1 hsz h hA
  go_enter Tryz.func24, Tryz.ntmps24
  go_wp2_with fail
  have hszw : w.heap.size < ((w.setCell ⟨b, 2, none⟩ (.int .i64 (l - 1))).alloc (.cells zobj 25)).heap.size := by simp [World.setCell]
  generalize (w.setCell ⟨b, 2, none⟩ (.int .i64 (l - 1))).alloc (.cells zobj 25) = w1 at HB1 HR1 HK1 hszw ⊢
  clear c0 c1 c2 z0 z1 z2 hl3
  refine (CM.out _).mono ?_
  rintro e wm ⟨rfl, rfl⟩
  go_wp2_with fail
  refine (CP.out _ HR1.out).mono ?_
  rintro e w2 ⟨rfl, h1, h2⟩
  have HB2 := hide (HB1.out.trans h1)
  have HR2 := hide h2
  have HK2 := hide (HK1.out.but h1 (by omega))
  have hz2 : w.heap.size < w2.heap.size := Nat.lt_of_lt_of_le hszw h1.size
  clear h1 h2 HB1 HR1 HK1 hszw
  go_wp2_with fail
  have hb3 : Below w2.heap.size w2 (w2.alloc (.cells zobj 25)) := (Below.refl _ _).alloc (Nat.le_refl _) _
  have HB := hide (HB2.out.trans (But.of_below hb3))
  have HR := hide (HR2.out.below hb3)
  have HKa := hide (HK2.out.below hb3)
  have HKo := hide (Blk.new w2 zobj 25)
  obtain ⟨O, hO⟩ : ∃ O, w2.heap.size = O := ⟨_, rfl⟩
  rw [hO] at HKo hz2 ⊢
  generalize w2.alloc (.cells zobj 25) = w3 at HB HR HKa HKo ⊢
  have hbO : b ≠ O := by omega
  have hbR : b ≠ w.heap.size := by omega
  clear HB2 HR2 HK2 hb3 hO
  refine (CT.out ⟨#[60, 60]⟩ false _ HR.out (by decide) P0.out).mono ?_
  rintro e w4 ⟨rfl, h1, h2⟩
  have HB := hide (HB.out.trans h1)
  have HR : Hid (RC W0 b w4 s A (l - 1)) := hide h2
  have HKa := hide (HKa.out.but h1 hbR.symm)
  have HKo := hide (HKo.out.but h1 hbO.symm)
  clear h1 h2
  go_wp2_with fail
  refine (CT.out ⟨#[91]⟩ false _ HR.out (by decide) P1.out).mono ?_
  rintro e w5 ⟨rfl, h1, h2⟩
  have HB := hide (HB.out.trans h1)
  have HR : Hid (RC W0 b w5 s A (l - 1)) := hide h2
  have HKa := hide (HKa.out.but h1 hbR.symm)
  have HKo := hide (HKo.out.but h1 hbO.symm)
  clear h1 h2
  go_wp2_with fail
  refine (CT.out ⟨#[60]⟩ false _ HR.out (by decide) P2.out).mono ?_
  rintro e w6 ⟨rfl, h1, h2⟩
  have HB := hide (HB.out.trans h1)
  have HR : Hid (RC W0 b w6 s A (l - 1)) := hide h2
  have HKa := hide (HKa.out.but h1 hbR.symm)
  have HKo := hide (HKo.out.but h1 hbO.symm)
  clear h1 h2
  go_wp2_with fail
  refine (CT.out ⟨#[40]⟩ false _ HR.out (by decide) P3.out).mono ?_
  rintro e w7 ⟨rfl, h1, h2⟩
  have HB := hide (HB.out.trans h1)
  have HR : Hid (RC W0 b w7 s A (l - 1)) := hide h2
  have HKa := hide (HKa.out.but h1 hbR.symm)
  have HKo := hide (HKo.out.but h1 hbO.symm)
  clear h1 h2
  go_wp2_with fail
  refine (CT.out ⟨#[47]⟩ true _ HR.out (by decide) P4.out).mono ?_
  rintro e w8 ⟨rfl, h1, h2⟩
  have HB := hide (HB.out.trans h1)
  have HR : Hid (RC W0 b w8 s (A + 1) (l - 1)) := hide h2
  have HKa := hide (HKa.out.but h1 hbR.symm)
  have HKo := hide (HKo.out.but h1 hbO.symm)
  clear h1 h2
  go_wp2_with fail
  have hO5 : O < w8.heap.size := HKo.out.lt
  rcases R with _ | ⟨t, q⟩
  · unfold TxR at CW
    simp only at CW
    refine (CW.out _ HR.out).mono ?_
    rintro e wW ⟨rfl, h1⟩
    exact ⟨rfl, rfl, HB.out.trans h1⟩
  unfold TxR at CW
  simp only at CW
  have hq := hq2 _ rfl
  simp only at hq
  clear hq2
  obtain ⟨tx, htx⟩ : ∃ tx : ByteArray, tx = ⟨t.toArray⟩ := ⟨_, rfl⟩
  rw [← htx] at CW
  have HTX := hide htx
  clear htx
  refine (CW.out _ HR.out).mono ?_
  rintro e wW ⟨rfl, h1, h2⟩
  have HB := hide (HB.out.trans h1)
  have HR := hide h2
  have HKa := hide (HKa.out.but h1 hbR.symm)
  have hko := HKo.out.but h1 hbO.symm
  have HKo := hide hko
  obtain ⟨⟨r0, r1, r2, r3, r4, r5⟩, ⟨y0, y1, y2, y3, y4, y5⟩⟩ := hko.six
  clear h1 h2 hko
  go_wp2_with fail
  clear r0 r1 r2 r3 r4 r5 y0 y1 y2 y3 y4 y5
  have HB : Hid (But b w ((((((wW.setCell ⟨O, 0, none⟩ (.int .i64 4)).setCell ⟨O, 1, none⟩ (.bool false)).setCell ⟨O, 2, none⟩ (.int .i64 0)).setCell ⟨O, 3, none⟩ (.string tx)).setCell ⟨O, 4, none⟩ (.slice none 0 0)).setCell ⟨O, 5, none⟩ (.slice none 0 0))) := hide (st6_but HB.out (Nat.le_of_lt hz2) (.int .i64 4) (.bool false) (.int .i64 0) (.string tx) (.slice none 0 0) (.slice none 0 0))
  have HR : Hid (RC W0 b ((((((wW.setCell ⟨O, 0, none⟩ (.int .i64 4)).setCell ⟨O, 1, none⟩ (.bool false)).setCell ⟨O, 2, none⟩ (.int .i64 0)).setCell ⟨O, 3, none⟩ (.string tx)).setCell ⟨O, 4, none⟩ (.slice none 0 0)).setCell ⟨O, 5, none⟩ (.slice none 0 0)) s q (l - 1)) := hide (HR.out.st6 hbO (by omega) (.int .i64 4) (.bool false) (.int .i64 0) (.string tx) (.slice none 0 0) (.slice none 0 0))
  have HKa : Hid (Blk ((((((wW.setCell ⟨O, 0, none⟩ (.int .i64 4)).setCell ⟨O, 1, none⟩ (.bool false)).setCell ⟨O, 2, none⟩ (.int .i64 0)).setCell ⟨O, 3, none⟩ (.string tx)).setCell ⟨O, 4, none⟩ (.slice none 0 0)).setCell ⟨O, 5, none⟩ (.slice none 0 0)) w.heap.size zobj 25) := hide ((st6_block (w := wW) (b := O) (k := w.heap.size) (Nat.ne_of_lt hz2) _ _ _ _ _ _).trans HKa.out)
  have HKo : Hid (Blk ((((((wW.setCell ⟨O, 0, none⟩ (.int .i64 4)).setCell ⟨O, 1, none⟩ (.bool false)).setCell ⟨O, 2, none⟩ (.int .i64 0)).setCell ⟨O, 3, none⟩ (.string tx)).setCell ⟨O, 4, none⟩ (.slice none 0 0)).setCell ⟨O, 5, none⟩ (.slice none 0 0)) O #[.int .i64 4, .bool false, .int .i64 0, .string tx, .slice none 0 0, .slice none 0 0] 25) := hide (st6_blk HKo.out (.int .i64 4) (.bool false) (.int .i64 0) (.string tx) (.slice none 0 0) (.slice none 0 0))
  generalize ((((((wW.setCell ⟨O, 0, none⟩ (.int .i64 4)).setCell ⟨O, 1, none⟩ (.bool false)).setCell ⟨O, 2, none⟩ (.int .i64 0)).setCell ⟨O, 3, none⟩ (.string tx)).setCell ⟨O, 4, none⟩ (.slice none 0 0)).setCell ⟨O, 5, none⟩ (.slice none 0 0)) = wX at HB HR HKa HKo ⊢
  have hpok : Pay.ok (tp 4 t) := ⟨⟨by simp, by simp⟩, ⟨by simp, by simp⟩, by rw [show ((tp 4 t).text).size = t.length by simp [ByteArray.size]]; exact hq, by simp⟩
  have CF := fits_any (tp 4 t) .nil none 0 none 0 wX (oin_leaf wX _ hpok rfl)
  rw [show ov (tp 4 t) none 0 none (flen .nil) 0 = .agg #[.int .i64 4, .bool false, .int .i64 0, .string tx, .slice none 0 0, .slice none 0 0] by rw [HTX.out]; rfl] at CF
  have CF := hide CF
  obtain ⟨fl, hfl⟩ : ∃ fl, flatV (tp 4 t) (flen .nil) = fl := ⟨_, rfl⟩
  rw [hfl] at CF
  have HOK := hide hpok
  have HFL := hide hfl
  clear hfl
  refine CF.out.mono ?_
  rintro e wY ⟨rfl, hf⟩
  have HB := hide (HB.out.trans (But.of_below hf))
  have HR := hide (HR.out.below hf)
  have hka := HKa.out.below hf
  have hko := HKo.out.below hf
  have HKa := hide hka
  obtain ⟨⟨r0, r1, r2, r3, r4, r5⟩, ⟨y0, y1, y2, y3, y4, y5⟩⟩ := hka.six
  obtain ⟨⟨q0, q1, q2, q3, q4, q5⟩, _⟩ := hko.six
  clear hka hko hf
  cases fl
  · go_wp2_with fail
    refine (CMF.out _).mono ?_
    rintro e wm ⟨rfl, rfl⟩
    refine ⟨rfl, ?_⟩
    show ObF W0 b w s (some (tp 4 t, BT.nil, q, l - 1)) _ _
    unfold ObF
    dsimp only
    rw [HFL.out, if_neg (by simp)]
    exact ⟨rfl, HB.out⟩
  · go_wp2_with fail
    refine (CM.out _).mono ?_
    rintro e wm ⟨rfl, rfl⟩
    go_wp2_with fail
    refine obj_fin (st6_blk HKa.out (.int .i64 4) (.bool false) (.int .i64 0) (.string tx) (.slice none 0 0) (.slice none 0 0)) (by rfl) (by rfl) ?_
    show ObF W0 b w s (some (tp 4 t, BT.nil, q, l - 1)) _ _
    unfold ObF
    dsimp only
    rw [HFL.out, if_pos rfl]
    exact ⟨⟨none, 0, none, 0, by rw [HTX.out]; rfl, oin_leaf _ _ HOK.out rfl⟩, st6_but HB.out (Nat.le_refl _) _ _ _ _ _ _, HR.out.st6 hbR hww _ _ _ _ _ _⟩
set_option maxRecDepth 8000 in
set_option maxHeartbeats 2000000 in
theorem ob_word (W0 : World) (b : Nat) (s : ByteArray) (a : Nat) (l deep : Int) (w : World) (h : RC W0 b w s a l) (hs : s.size ≤ 16777216) (hl : 1 ≤ l) (hl2 : l ≤ 65536) (A : Nat) (hA : blanksV s.data.toList a = A)
    (p0 : Lib.hasPrefix (s.data.toList.drop A) [60, 60] = false) (p1 : Lib.hasPrefix (s.data.toList.drop A) [91] = false) (p2 : Lib.hasPrefix (s.data.toList.drop A) [60] = false) (p3 : Lib.hasPrefix (s.data.toList.drop A) [40] = false) (p4 : Lib.hasPrefix (s.data.toList.drop A) [47] = false) (R : Option (Pay × BT Pay × Nat × Int)) (HW : ∀ w', RC W0 b w' s A (l - 1) → Calls Tryz.prog 48 #[.pointer (some ⟨b, 0, none⟩)] w' (CaR W0 b w' s R)) :
    Calls Tryz.prog 24 #[.pointer (some ⟨b, 0, none⟩), .int .i64 deep] w (ObF W0 b w s R) := by
  have hlt := h.lt
  obtain ⟨⟨c0, c1, c2⟩, z0, z1, z2⟩ := h.rat.three
  have CP := hide (fun w' (h' : RC W0 b w' s a (l - 1)) => pass_rc W0 b s a (l - 1) w' h' hs)
  rw [hA] at CP
  have CT := hide (fun p t w' (h' : RC W0 b w' s A (l - 1)) (hp : p.size ≤ 16) (ht : Lib.hasPrefix (s.data.toList.drop A) p.data.toList = t) => take_rc W0 b s p A (l - 1) w' h' hs hp t ht)
  have CW := hide HW
  have CM := hide must_t
  have CMF := hide must_f
  have HW0 := hide h.hb
  have P0 := hide p0
  have P1 := hide p1
  have P2 := hide p2
  have P3 := hide p3
  have P4 := hide p4
  have hb1 : Below (w.setCell ⟨b, 2, none⟩ (.int .i64 (l - 1))).heap.size (w.setCell ⟨b, 2, none⟩ (.int .i64 (l - 1))) ((w.setCell ⟨b, 2, none⟩ (.int .i64 (l - 1))).alloc (.cells zobj 25)) := (Below.refl _ _).alloc (Nat.le_refl _) _
  have HB1 := hide ((But.setCell b w 2 (.int .i64 (l - 1))).trans (But.of_below hb1))
  have HR1 := hide ((h.but (But.setCell b w 2 (.int .i64 (l - 1))) (h.rat.left1 (l - 1)) h.le).below hb1)
  have hsz : (w.setCell ⟨b, 2, none⟩ (.int .i64 (l - 1))).heap.size = w.heap.size := by simp [World.setCell]
  have HK1 : Hid (Blk ((w.setCell ⟨b, 2, none⟩ (.int .i64 (l - 1))).alloc (.cells zobj 25)) w.heap.size zobj 25) := hide (by
    have := Blk.new (w.setCell ⟨b, 2, none⟩ (.int .i64 (l - 1))) zobj 25
    rwa [hsz] at this)
  have hl3 : decide ((0 : Int) ≤ l - 1) = true := by simp; omega
  have hww : W0.heap.size ≤ w.heap.size := by have := h.hb; omega
  clear p0 p1 p2 p3 p4 HW hb1 hsz h hA
  go_enter Tryz.func24, Tryz.ntmps24
  go_wp2_with fail
  have hszw : w.heap.size < ((w.setCell ⟨b, 2, none⟩ (.int .i64 (l - 1))).alloc (.cells zobj 25)).heap.size := by simp [World.setCell]
  generalize (w.setCell ⟨b, 2, none⟩ (.int .i64 (l - 1))).alloc (.cells zobj 25) = w1 at HB1 HR1 HK1 hszw ⊢
  clear c0 c1 c2 z0 z1 z2 hl3
  refine (CM.out _).mono ?_
  rintro e wm ⟨rfl, rfl⟩
  go_wp2_with fail
  refine (CP.out _ HR1.out).mono ?_
  rintro e w2 ⟨rfl, h1, h2⟩
  have HB2 := hide (HB1.out.trans h1)
  have HR2 := hide h2
  have HK2 := hide (HK1.out.but h1 (by omega))
  have hz2 : w.heap.size < w2.heap.size := Nat.lt_of_lt_of_le hszw h1.size
  clear h1 h2 HB1 HR1 HK1 hszw
  go_wp2_with fail
  have hb3 : Below w2.heap.size w2 (w2.alloc (.cells zobj 25)) := (Below.refl _ _).alloc (Nat.le_refl _) _
  have HB := hide (HB2.out.trans (But.of_below hb3))
  have HR := hide (HR2.out.below hb3)
  have HKa := hide (HK2.out.below hb3)
  have HKo := hide (Blk.new w2 zobj 25)
  obtain ⟨O, hO⟩ : ∃ O, w2.heap.size = O := ⟨_, rfl⟩
  rw [hO] at HKo hz2 ⊢
  generalize w2.alloc (.cells zobj 25) = w3 at HB HR HKa HKo ⊢
  have hbO : b ≠ O := by omega
  have hbR : b ≠ w.heap.size := by omega
  clear HB2 HR2 HK2 hb3 hO
  refine (CT.out ⟨#[60, 60]⟩ false _ HR.out (by decide) P0.out).mono ?_
  rintro e w4 ⟨rfl, h1, h2⟩
  have HB := hide (HB.out.trans h1)
  have HR : Hid (RC W0 b w4 s A (l - 1)) := hide h2
  have HKa := hide (HKa.out.but h1 hbR.symm)
  have HKo := hide (HKo.out.but h1 hbO.symm)
  clear h1 h2
  go_wp2_with fail
  refine (CT.out ⟨#[91]⟩ false _ HR.out (by decide) P1.out).mono ?_
  rintro e w5 ⟨rfl, h1, h2⟩
  have HB := hide (HB.out.trans h1)
  have HR : Hid (RC W0 b w5 s A (l - 1)) := hide h2
  have HKa := hide (HKa.out.but h1 hbR.symm)
  have HKo := hide (HKo.out.but h1 hbO.symm)
  clear h1 h2
  go_wp2_with fail
  refine (CT.out ⟨#[60]⟩ false _ HR.out (by decide) P2.out).mono ?_
  rintro e w6 ⟨rfl, h1, h2⟩
  have HB := hide (HB.out.trans h1)
  have HR : Hid (RC W0 b w6 s A (l - 1)) := hide h2
  have HKa := hide (HKa.out.but h1 hbR.symm)
  have HKo := hide (HKo.out.but h1 hbO.symm)
  clear h1 h2
  go_wp2_with fail
  refine (CT.out ⟨#[40]⟩ false _ HR.out (by decide) P3.out).mono ?_
  rintro e w7 ⟨rfl, h1, h2⟩
  have HB := hide (HB.out.trans h1)
  have HR : Hid (RC W0 b w7 s A (l - 1)) := hide h2
  have HKa := hide (HKa.out.but h1 hbR.symm)
  have HKo := hide (HKo.out.but h1 hbO.symm)
  clear h1 h2
  go_wp2_with fail
  refine (CT.out ⟨#[47]⟩ false _ HR.out (by decide) P4.out).mono ?_
  rintro e w8 ⟨rfl, h1, h2⟩
  have HB := hide (HB.out.trans h1)
  have HR : Hid (RC W0 b w8 s A (l - 1)) := hide h2
  have HKa := hide (HKa.out.but h1 hbR.symm)
  have HKo := hide (HKo.out.but h1 hbO.symm)
  clear h1 h2
  go_wp2_with fail
  have hO5 : O < w8.heap.size := HKo.out.lt
  rcases R with _ | ⟨p, T, q, lq⟩
  · unfold CaR at CW
    simp only at CW
    refine (CW.out _ HR.out).mono ?_
    rintro e wW ⟨rfl, h1⟩
    exact ⟨rfl, rfl, HB.out.trans h1⟩
  unfold CaR at CW
  simp only at CW
  refine (CW.out _ HR.out).mono ?_
  rintro e wW ⟨⟨ka, kc, ia, ic, rfl, hin⟩, h1, h2⟩
  have HIN := hide hin
  have HB := hide (HB.out.trans h1)
  have HR := hide h2
  have HKa := hide (HKa.out.but h1 hbR.symm)
  have hko := HKo.out.but h1 hbO.symm
  have HKo := hide hko
  obtain ⟨⟨r0, r1, r2, r3, r4, r5⟩, ⟨y0, y1, y2, y3, y4, y5⟩⟩ := hko.six
  clear h1 h2 hko hin
  go_wp2_with fail
  clear r0 r1 r2 r3 r4 r5 y0 y1 y2 y3 y4 y5
  have HB : Hid (But b w ((((((wW.setCell ⟨O, 0, none⟩ (.int .i64 p.kind)).setCell ⟨O, 1, none⟩ (.bool p.flag)).setCell ⟨O, 2, none⟩ (.int .i64 p.num)).setCell ⟨O, 3, none⟩ (.string p.text)).setCell ⟨O, 4, none⟩ (.slice ka p.keys.length kc)).setCell ⟨O, 5, none⟩ (.slice ia (flen T) ic))) := hide (st6_but HB.out (Nat.le_of_lt hz2) (.int .i64 p.kind) (.bool p.flag) (.int .i64 p.num) (.string p.text) (.slice ka p.keys.length kc) (.slice ia (flen T) ic))
  have HR : Hid (RC W0 b ((((((wW.setCell ⟨O, 0, none⟩ (.int .i64 p.kind)).setCell ⟨O, 1, none⟩ (.bool p.flag)).setCell ⟨O, 2, none⟩ (.int .i64 p.num)).setCell ⟨O, 3, none⟩ (.string p.text)).setCell ⟨O, 4, none⟩ (.slice ka p.keys.length kc)).setCell ⟨O, 5, none⟩ (.slice ia (flen T) ic)) s q lq) := hide (HR.out.st6 hbO (by omega) (.int .i64 p.kind) (.bool p.flag) (.int .i64 p.num) (.string p.text) (.slice ka p.keys.length kc) (.slice ia (flen T) ic))
  have HKa : Hid (Blk ((((((wW.setCell ⟨O, 0, none⟩ (.int .i64 p.kind)).setCell ⟨O, 1, none⟩ (.bool p.flag)).setCell ⟨O, 2, none⟩ (.int .i64 p.num)).setCell ⟨O, 3, none⟩ (.string p.text)).setCell ⟨O, 4, none⟩ (.slice ka p.keys.length kc)).setCell ⟨O, 5, none⟩ (.slice ia (flen T) ic)) w.heap.size zobj 25) := hide ((st6_block (w := wW) (b := O) (k := w.heap.size) (Nat.ne_of_lt hz2) _ _ _ _ _ _).trans HKa.out)
  have HKo : Hid (Blk ((((((wW.setCell ⟨O, 0, none⟩ (.int .i64 p.kind)).setCell ⟨O, 1, none⟩ (.bool p.flag)).setCell ⟨O, 2, none⟩ (.int .i64 p.num)).setCell ⟨O, 3, none⟩ (.string p.text)).setCell ⟨O, 4, none⟩ (.slice ka p.keys.length kc)).setCell ⟨O, 5, none⟩ (.slice ia (flen T) ic)) O #[.int .i64 p.kind, .bool p.flag, .int .i64 p.num, .string p.text, .slice ka p.keys.length kc, .slice ia (flen T) ic] 25) := hide (st6_blk HKo.out (.int .i64 p.kind) (.bool p.flag) (.int .i64 p.num) (.string p.text) (.slice ka p.keys.length kc) (.slice ia (flen T) ic))
  have HIN : Hid (OIn (only (fun k => O < k) ((((((wW.setCell ⟨O, 0, none⟩ (.int .i64 p.kind)).setCell ⟨O, 1, none⟩ (.bool p.flag)).setCell ⟨O, 2, none⟩ (.int .i64 p.num)).setCell ⟨O, 3, none⟩ (.string p.text)).setCell ⟨O, 4, none⟩ (.slice ka p.keys.length kc)).setCell ⟨O, 5, none⟩ (.slice ia (flen T) ic))) p T ka kc ia ic) := hide (HIN.out.sub (only_sub (Nat.le_of_eq (st6_size _ _ _ _ _ _ _ _).symm) fun k h1 _ => ⟨Nat.lt_of_lt_of_le hO5 h1, st6_block (w := wW) (b := O) (k := k) (Nat.ne_of_gt (Nat.lt_of_lt_of_le hO5 h1)) _ _ _ _ _ _⟩))
  generalize ((((((wW.setCell ⟨O, 0, none⟩ (.int .i64 p.kind)).setCell ⟨O, 1, none⟩ (.bool p.flag)).setCell ⟨O, 2, none⟩ (.int .i64 p.num)).setCell ⟨O, 3, none⟩ (.string p.text)).setCell ⟨O, 4, none⟩ (.slice ka p.keys.length kc)).setCell ⟨O, 5, none⟩ (.slice ia (flen T) ic)) = wX at HB HR HKa HKo HIN ⊢
  have CF := hide (fits_any p T ka kc ia ic wX (HIN.out.sub (only_sub_all _ _)))
  obtain ⟨fl, hfl⟩ : ∃ fl, flatV p (flen T) = fl := ⟨_, rfl⟩
  rw [hfl] at CF
  have HFL := hide hfl
  clear hfl
  refine CF.out.mono ?_
  rintro e wY ⟨rfl, hf⟩
  have HIN := hide (HIN.out.sub (only_sub (S' := fun k => O < k) hf.size fun k h1 h2 => ⟨h1, hf.block k h2⟩))
  have HB := hide (HB.out.trans (But.of_below hf))
  have HR := hide (HR.out.below hf)
  have hka := HKa.out.below hf
  have hko := HKo.out.below hf
  have HKa := hide hka
  obtain ⟨⟨r0, r1, r2, r3, r4, r5⟩, ⟨y0, y1, y2, y3, y4, y5⟩⟩ := hka.six
  obtain ⟨⟨q0, q1, q2, q3, q4, q5⟩, _⟩ := hko.six
  clear hka hko hf
  cases fl
  · go_wp2_with fail
    refine (CMF.out _).mono ?_
    rintro e wm ⟨rfl, rfl⟩
    refine ⟨rfl, ?_⟩
    unfold ObF
    dsimp only
    rw [HFL.out, if_neg (by simp)]
    exact ⟨rfl, HB.out⟩
  · go_wp2_with fail
    refine (CM.out _).mono ?_
    rintro e wm ⟨rfl, rfl⟩
    go_wp2_with fail
    refine obj_fin (st6_blk HKa.out (.int .i64 p.kind) (.bool p.flag) (.int .i64 p.num) (.string p.text) (.slice ka p.keys.length kc) (.slice ia (flen T) ic)) (by rfl) (by rfl) ?_
    unfold ObF
    dsimp only
    rw [HFL.out, if_pos rfl]
    exact ⟨⟨ka, kc, ia, ic, rfl, HIN.out.sub (only_sub (Nat.le_of_eq (st6_size _ _ _ _ _ _ _ _).symm) fun k h1 _ => ⟨by omega, st6_block (w := wm) (b := w.heap.size) (k := k) (by omega) _ _ _ _ _ _⟩)⟩, st6_but HB.out (Nat.le_refl _) _ _ _ _ _ _, HR.out.st6 hbR hww _ _ _ _ _ _⟩
end Go.Proofs.YtalmcdbdibpgkaaGreatDoor
