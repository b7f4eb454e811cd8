/-
  What the reference's Copy (chapter 5) answers: the same object in memory of its own.
-/
import Derived.Test.YtcgoklacjniemaaGreatDoorO5App
import Derived.Deep.AppendLies
namespace Go.Proofs.YtcgoklacjniemaaGreatDoor
open Go.RowKit Go.Deep

def joinF : List Ent → BT Pay → BT Pay
  | [], U => U
  | x :: l, U => .node x.b0 x.o0 x.p x.T (joinF l U)
theorem joinF_nil : ∀ l : List Ent, joinF l .nil = forest l
  | [] => rfl
  | x :: l => by simp [joinF, forest, joinF_nil l]
theorem joinF_snoc (x : Ent) (U : BT Pay) : ∀ l : List Ent, joinF (l ++ [x]) U = joinF l (.node x.b0 x.o0 x.p x.T U)
  | [] => rfl
  | y :: l => by simp [joinF, joinF_snoc x U l]
abbrev zobj : Array Value := #[.int .i64 0, .bool false, .int .i64 0, .string ⟨#[]⟩, .slice none 0 0, .slice none 0 0]
abbrev obox (p : Pay) (ka : Option Addr) (kc : Nat) (ia : Option Addr) (n ic : Nat) : Array Value := #[.int .i64 p.kind, .bool p.flag, .int .i64 p.num, .string p.text, .slice ka p.keys.length kc, .slice ia n ic]

set_option maxRecDepth 8000 in
set_option maxHeartbeats 4000000 in
theorem rcopy_step (M : Nat)
    (ih : ∀ (p : Pay) (T : BT Pay) (ka : Option Addr) (kc : Nat) (ia : Option Addr) (ic : Nat) (w : World), fsize T < M → OIn w p T ka kc ia ic →
      Calls Tryz.prog 12 #[ov p ka kc ia (flen T) ic] w fun e w' => (∃ ka' kc' ia' ic', e = .returned (ov p ka' kc' ia' (flen T) ic') ∧ OIn (fresh w.heap.size w') p T ka' kc' ia' ic') ∧ Below w.heap.size w w')
    (p : Pay) (T : BT Pay) (ka : Option Addr) (kc : Nat) (ia : Option Addr) (ic : Nat) (w : World) (hM : fsize T ≤ M) (hin : OIn w p T ka kc ia ic) :
      Calls Tryz.prog 12 #[ov p ka kc ia (flen T) ic] w fun e w' => (∃ ka' kc' ia' ic', e = .returned (ov p ka' kc' ia' (flen T) ic') ∧ OIn (fresh w.heap.size w') p T ka' kc' ia' ic') ∧ Below w.heap.size w w' := by
  have IH := hide ih
  have HI := hide hin
  have HM := hide hM
  have hl1 : (flen T : Int) ≤ 9223372036854775807 := by have h := hin.2.2.1; have h' := hin.2.2.2.1; omega
  have hl0 : (0 : Int) ≤ (flen T : Int) := by omega
  have HB0 := hide ((((Below.refl w.heap.size w).alloc (Nat.le_refl _) (.cells (obox p ka kc ia (flen T) ic) 25)).alloc (by simp) (.cells zobj 25)).alloc (by simp; omega) (.cells #[] 9))
  obtain ⟨ka', kc', w1, hr, hS1, hb1⟩ := app_keys (some ⟨w.heap.size + 1 + 1, 0, none⟩) ka p.keys kc (((w.alloc (.cells (obox p ka kc ia (flen T) ic) 25)).alloc (.cells zobj 25)).alloc (.cells #[] 9)) (hin.2.1.1.below HB0.out) (by have := hin.2.1.2.1; omega) (Or.inr ⟨_, rfl⟩)
  clear ih hin hM
  have HS1 := hide hS1
  have HB1 := hide (below_t5 HB0.out hb1)
  have hz : w.heap.size + 1 + 1 + 1 ≤ w1.heap.size := by have := hb1.size; simpa using this
  have hk0 : Blk w1 w.heap.size (obox p ka kc ia (flen T) ic) 25 := (((Blk.new w _ _).below ((Below.refl _ _).alloc (Nat.le_refl _) _)).below ((Below.refl _ _).alloc (Nat.le_refl _) _)).below hb1
  have hk1 : Blk w1 (w.heap.size + 1) zobj 25 := by
    have := Blk.new (w.alloc (.cells (obox p ka kc ia (flen T) ic) 25)) zobj 25
    rw [show (w.alloc (.cells (obox p ka kc ia (flen T) ic) 25)).heap.size = w.heap.size + 1 by simp] at this
    exact (this.below ((Below.refl _ _).alloc (Nat.le_refl _) _)).below hb1
  have c4 := hk0.cell 4
  have z4 := hk0.frozen 4
  have HK0 := hide hk0
  have HK1 := hide hk1
  have HR := hide hr
  clear hS1 hb1 hr hk0 hk1 HB0
  go_enter Tryz.func12, Tryz.ntmps12
  go_wp2_with (at_builtin; refine Lib.wpList_append_run _ rfl _ _ _ _ rfl _ _ rfl rfl _ _ HR.out ?_)
  clear c4 z4
  obtain ⟨b, off, hia, hrows⟩ := OIn.at_ HI.out
  have HRW := hide hrows
  have HIA := hide hia
  have HW1 : Hid (Below w.heap.size w (w1.setCell ⟨w.heap.size, 4, none⟩ (.slice ka' p.keys.length kc'))) := hide (HB1.out.setCell (p := ⟨w.heap.size, 4, none⟩) (Nat.le_refl _) _)
  have HST : Hid (Strs (fresh (w.heap.size + 1 + 1) (w1.setCell ⟨w.heap.size, 4, none⟩ (.slice ka' p.keys.length kc'))) ka' p.keys) := hide (HS1.out.1.sub (only_sub (by simp [World.setCell]) fun k h1 h2 => ⟨by simp at h1; omega, Below.heap_setCell _ _ _ _ (by simp at h1; simp; omega)⟩))
  have HKA := hide (HK0.out.set 4 (.slice ka' p.keys.length kc'))
  have HKB := hide (HK1.out.other (b' := w.heap.size) (by omega) 4 (.slice ka' p.keys.length kc'))
  have hz' : w.heap.size + 1 + 1 ≤ (w1.setCell ⟨w.heap.size, 4, none⟩ (.slice ka' p.keys.length kc')).heap.size := by simp [World.setCell]; omega
  generalize w1.setCell ⟨w.heap.size, 4, none⟩ (.slice ka' p.keys.length kc') = w2 at HW1 HST HKA HKB hz' ⊢
  clear hrows hia HK0 HK1 hz HB1 HR
  go_loopw [3, 4] (fun vl vi wr => ∃ (k : Nat) (l : List Ent) (U : BT Pay), vi = .int .i64 k ∧ Hid (flen U + k = flen T ∧ fsize U ≤ fsize T ∧ Rows w U b (off + k * 6) ∧ l.length = k ∧ joinF l U = T ∧ ORow wr (w.heap.size + 1 + 1) vl l ∧ Below w.heap.size w wr ∧ Blk wr w.heap.size (obox p ka' kc' ia (flen T) ic) 25 ∧ Blk wr (w.heap.size + 1) zobj 25 ∧ Strs (only (Part (w.heap.size + 1 + 1) vl) wr) ka' p.keys ∧ w.heap.size + 1 + 1 ≤ wr.heap.size)) (fun _ vi _ => flen T - (intOf vi).toNat)
  case atStart => exact ⟨0, [], T, rfl, hide ⟨by omega, Nat.le_refl _, by simpa using HRW.out, rfl, rfl, ORow.nil _ _, HW1.out, HKA.out, HKB.out, HST.out.sub (only_sub (Nat.le_refl _) fun k h1 _ => ⟨⟨h1, by simp [Value.ownBlock]⟩, rfl⟩), hz'⟩⟩
  case round =>
    clear HW1 HST HKA HKB hz' HRW
    obtain ⟨k, l, U, rfl, HV⟩ := hrel
    obtain ⟨hk, hu, hrow, hlen, hj, hor, hbel, hk0, hk1, hst, hsz⟩ := HV.out
    clear HV
    have HB := hide hbel
    have HK0 := hide hk0
    have HK1 := hide hk1
    have HST := hide hst
    have HOR := hide hor
    have HJ := hide hj
    have hkk : (0 : Int) ≤ (k : Int) := by omega
    have s5 := hk0.cell 5
    have hs5 : (obox p ka' kc' ia (flen T) ic)[5]? = some (.slice ia (flen T) ic) := rfl
    rw [hs5] at s5
    clear hs5
    cases U with
    | nil =>
      have hk' : ¬ k < flen T := by simp [flen] at hk; omega
      have hjT : forest l = T := by rw [← joinF_nil]; exact hj
      obtain ⟨ia', ic', rfl, hi1, hi2, hi3⟩ := hor.items
      rw [hjT] at hi1 hi3
      have s0 := hk0.cell 0
      have s1 := hk0.cell 1
      have s2 := hk0.cell 2
      have s3 := hk0.cell 3
      have s4 := hk0.cell 4
      have z5 := hk0.frozen 5
      have r0 := hk1.cell 0
      have r1 := hk1.cell 1
      have r2 := hk1.cell 2
      have r3 := hk1.cell 3
      have r4 := hk1.cell 4
      have r5 := hk1.cell 5
      have y0 := hk1.frozen 0
      have y1 := hk1.frozen 1
      have y2 := hk1.frozen 2
      have y3 := hk1.frozen 3
      have y4 := hk1.frozen 4
      have y5 := hk1.frozen 5
      rw [hjT]
      have HI3 := hide hi3
      have HI1 := hide hi1
      clear hk hrow hbel hj hk0 hk1 hst hor hi3 hi1 hjT
      go_wp2_with fail
      have hbf : Below w.heap.size w (((((((wr.setCell ⟨w.heap.size, 5, none⟩ (.slice ia' (flen T) ic')).setCell ⟨w.heap.size + 1, 0, none⟩ (.int .i64 p.kind)).setCell ⟨w.heap.size + 1, 1, none⟩ (.bool p.flag)).setCell ⟨w.heap.size + 1, 2, none⟩ (.int .i64 p.num)).setCell ⟨w.heap.size + 1, 3, none⟩ (.string p.text)).setCell ⟨w.heap.size + 1, 4, none⟩ (.slice ka' p.keys.length kc')).setCell ⟨w.heap.size + 1, 5, none⟩ (.slice ia' (flen T) ic')) :=
        ((((((HB.out.setCell (p := ⟨w.heap.size, 5, none⟩) (Nat.le_refl _) _).setCell (p := ⟨w.heap.size + 1, 0, none⟩) (by simp) _).setCell (p := ⟨w.heap.size + 1, 1, none⟩) (by simp) _).setCell (p := ⟨w.heap.size + 1, 2, none⟩) (by simp) _).setCell (p := ⟨w.heap.size + 1, 3, none⟩) (by simp) _).setCell (p := ⟨w.heap.size + 1, 4, none⟩) (by simp) _).setCell (p := ⟨w.heap.size + 1, 5, none⟩) (by simp) _
      have hkf := ((((((HK1.out.other (b' := w.heap.size) (by omega) 5 (.slice ia' (flen T) ic')).set 0 (.int .i64 p.kind)).set 1 (.bool p.flag)).set 2 (.int .i64 p.num)).set 3 (.string p.text)).set 4 (.slice ka' p.keys.length kc')).set 5 (.slice ia' (flen T) ic')
      have hsub : Sub (fresh (w.heap.size + 1 + 1) wr) (fresh w.heap.size (((((((wr.setCell ⟨w.heap.size, 5, none⟩ (.slice ia' (flen T) ic')).setCell ⟨w.heap.size + 1, 0, none⟩ (.int .i64 p.kind)).setCell ⟨w.heap.size + 1, 1, none⟩ (.bool p.flag)).setCell ⟨w.heap.size + 1, 2, none⟩ (.int .i64 p.num)).setCell ⟨w.heap.size + 1, 3, none⟩ (.string p.text)).setCell ⟨w.heap.size + 1, 4, none⟩ (.slice ka' p.keys.length kc')).setCell ⟨w.heap.size + 1, 5, none⟩ (.slice ia' (flen T) ic'))) := by
        refine only_sub (by simp [World.setCell]) fun k h1 h2 => ⟨by omega, ?_⟩
        rw [Below.heap_setCell _ _ _ _ (by simp; omega), Below.heap_setCell _ _ _ _ (by simp; omega), Below.heap_setCell _ _ _ _ (by simp; omega), Below.heap_setCell _ _ _ _ (by simp; omega), Below.heap_setCell _ _ _ _ (by simp; omega), Below.heap_setCell _ _ _ _ (by simp; omega), Below.heap_setCell _ _ _ _ (by simp; omega)]
      generalize (((((((wr.setCell ⟨w.heap.size, 5, none⟩ (.slice ia' (flen T) ic')).setCell ⟨w.heap.size + 1, 0, none⟩ (.int .i64 p.kind)).setCell ⟨w.heap.size + 1, 1, none⟩ (.bool p.flag)).setCell ⟨w.heap.size + 1, 2, none⟩ (.int .i64 p.num)).setCell ⟨w.heap.size + 1, 3, none⟩ (.string p.text)).setCell ⟨w.heap.size + 1, 4, none⟩ (.slice ka' p.keys.length kc')).setCell ⟨w.heap.size + 1, 5, none⟩ (.slice ia' (flen T) ic')) = wf at hbf hkf hsub ⊢
      have f0 := hkf.cell 0
      have f1 := hkf.cell 1
      have f2 := hkf.cell 2
      have f3 := hkf.cell 3
      have f4 := hkf.cell 4
      have f5 := hkf.cell 5
      simp at f0 f1 f2 f3 f4 f5
      refine bodyPost_ret (v := ov p ka' kc' ia' (flen T) ic') (by simp [results, Tryz.results12, go_sem, f0, f1, f2, f3, f4, f5]) rfl ⟨⟨ka', kc', ia', ic', rfl, ?_⟩, hbf⟩
      refine ⟨HI.out.1, ⟨?_, HS1.out.2.1, HS1.out.2.2⟩, ⟨HI1.out, HI.out.2.2.1.2⟩, hi2, ?_⟩
      · exact (HST.out.sub (only_sub (S' := fun k => w.heap.size + 1 + 1 ≤ k) (Nat.le_refl _) fun k h1 _ => ⟨h1.1, rfl⟩)).sub hsub
      · rcases HI3.out with h | ⟨b', off', e, hl, hR⟩
        · exact Or.inl h
        · exact Or.inr ⟨b', off', e, Nat.lt_of_lt_of_le hl hsub.size, hR.sub hsub⟩
    | node b0 o0 q TT N =>
      obtain ⟨⟨ka2, kc2, ia2, ic2, g6, gin⟩, grest⟩ := rows_node.1 hrow
      obtain rfl | ⟨rfl, hbz⟩ := HIA.out
      · simp [flen] at hk
      have hlt : k < flen T := by simp [flen] at hk; omega
      have hst' : fsize TT < M := by have := HM.out; simp [fsize] at hu; omega
      have CI := IH.out q TT ka2 kc2 ia2 ic2 wr hst' (gin.below hbel)
      obtain ⟨c0, c1, c2, c3, c4, c5⟩ := g6.below hbz hbel
      have CI := hide CI
      have HK := hide (show flen N + (k + 1) = flen T ∧ fsize N ≤ fsize T by simp [flen, fsize] at hk hu; omega)
      have HRR := hide grest
      have HL := hide hlen
      have AP : Hid (∀ (x : Ent) (y : World), Below wr.heap.size wr y → x.lies (fresh wr.heap.size y) → ∃ g cap w2, (Builtin.append_ #[23, 23] 23 #[u3, .slice (some ⟨y.heap.size, 0, none⟩) 1 1]).run Tryz.prog (y.alloc (.cells x.cells.toArray 25)) = .ok (.slice (some ⟨g, 0, none⟩) (l.length + 1) cap) w2 ∧
          ORow w2 (w.heap.size + 1 + 1) (.slice (some ⟨g, 0, none⟩) (l.length + 1) cap) (l ++ [x]) ∧ Below (w.heap.size + 1 + 1) y w2 ∧ Sub (only (Part (w.heap.size + 1 + 1) u3) y) (only (Part (w.heap.size + 1 + 1) (.slice (some ⟨g, 0, none⟩) (l.length + 1) cap)) w2)) := hide (fun x y hy hx => app_obj x hor hy.size (fun k _ h2 => hy.block k h2) hsz hx (by have := HI.out.2.2.1.2; omega) _ rfl)
      clear hk hu hrow hbel g6 gin grest hor hj hk0 hk1 hst hlen
      go_wp2_with (first | (go_at_call 12; refine CI.out.mono ?_; rintro e wy ⟨⟨ka3, kc3, ia3, ic3, rfl, hin3⟩, hy⟩; obtain ⟨g, cap, w2, hr, hor2, hb2, hp2⟩ := AP.out ⟨b0, o0, q, TT, ka3, kc3, ia3, ic3⟩ wy hy hin3; have HR := hide hr; have HY := hide hy; have HO2 := hide hor2; have HB2 := hide hb2; have HP2 := hide hp2; clear hr hy hin3 hor2 hb2 hp2) | (at_builtin; refine Lib.wpList_append_run _ rfl _ _ _ _ rfl _ _ rfl rfl _ _ HR.out ?_))
      go_roundw
      case rel =>
        have hb3 : Below w.heap.size w wy := below_t5 HB.out HY.out
        have hw2 : Below w.heap.size w w2 := hb3.trans (HB2.out.mono (by omega))
        exact ⟨k + 1, l ++ [⟨b0, o0, q, TT, ka3, kc3, ia3, ic3⟩], N, by go_num, hide ⟨HK.out.1, HK.out.2, by have := HRR.out; rw [show off + (k + 1) * 6 = off + k * 6 + 6 by omega]; exact this, by simp [HL.out], by rw [joinF_snoc]; exact HJ.out, HO2.out, hw2, (HK0.out.below HY.out).kept HB2.out (by omega), (HK1.out.below HY.out).kept HB2.out (by omega), (HST.out.sub (only_sub HY.out.size fun k h1 h2 => ⟨h1, HY.out.block k h2⟩)).sub HP2.out, Nat.le_trans (Nat.le_trans hsz HY.out.size) HB2.out.size⟩⟩
      case measure => simp [intOf]; omega
theorem rcopy_core : ∀ (M : Nat) (p : Pay) (T : BT Pay) (ka : Option Addr) (kc : Nat) (ia : Option Addr) (ic : Nat) (w : World), fsize T < M → OIn w p T ka kc ia ic →
      Calls Tryz.prog 12 #[ov p ka kc ia (flen T) ic] w fun e w' => (∃ ka' kc' ia' ic', e = .returned (ov p ka' kc' ia' (flen T) ic') ∧ OIn (fresh w.heap.size w') p T ka' kc' ia' ic') ∧ Below w.heap.size w w'
  | 0 => fun _ _ _ _ _ _ _ h => absurd h (Nat.not_lt_zero _)
  | M + 1 => fun p T ka kc ia ic w hM hin => rcopy_step M (rcopy_core M) p T ka kc ia ic w (by omega) hin
theorem rcopy_any (p : Pay) (T : BT Pay) (ka : Option Addr) (kc : Nat) (ia : Option Addr) (ic : Nat) (w : World) (hin : OIn w p T ka kc ia ic) :
      Calls Tryz.prog 12 #[ov p ka kc ia (flen T) ic] w fun e w' => (∃ ka' kc' ia' ic', e = .returned (ov p ka' kc' ia' (flen T) ic') ∧ OIn (fresh w.heap.size w') p T ka' kc' ia' ic') ∧ Below w.heap.size w w' :=
  rcopy_core _ p T ka kc ia ic w (Nat.lt_succ_self _) hin
end Go.Proofs.YtcgoklacjniemaaGreatDoor
