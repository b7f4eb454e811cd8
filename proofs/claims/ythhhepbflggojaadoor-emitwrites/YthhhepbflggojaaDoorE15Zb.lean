/-
  What the writer's fill, clip, end answer.
-/
import Derived.Test.YthhhepbflggojaaDoorE15Z
import Derived.Deep.RegionHeld3
namespace Go.Proofs.YthhhepbflggojaaDoor.E15
open Go.RowKit Go.Deep
set_option linter.unusedVariables false
set_option linter.unusedSimpArgs false
set_option maxRecDepth 8000

set_option maxHeartbeats 8000000 in
theorem fill_any (B b : Nat) (F : List UInt8) (k s x0 y0 r0 r1 r2 r3 : Int) (f : Int) (a : Option Addr) (n c : Nat) (gs : List Int) (w : World) (h : WSt w B b F) (hg : GB B w) (hm : R3.mayB r0 r1 r2 r3 = true) (hl : F.length ≤ 800000000) :
    Calls Tryd.prog 36 #[.pointer (some ⟨b, 0, none⟩), .agg #[.int .i64 k, .int .i64 f, .int .i64 s, .int .i64 x0, .int .i64 y0, .slice a n c, .int .i64 r0, .int .i64 r1, .int .i64 r2, .int .i64 r3]] w fun e w' => e = .returned (.tuple #[]) ∧ WSt w' B b (F ++ (bxT r0 r1 r2 r3 ++ [102, 10])) ∧ PK B b w w' := by
  have CB : Hid (∀ F u, WSt u B b F → GB B u → F.length ≤ 900000000 → Calls Tryd.prog 50 #[.pointer (some ⟨b, 0, none⟩), .agg #[.int .i64 r0, .int .i64 r1, .int .i64 r2, .int .i64 r3]] u fun e w' => e = .returned (.tuple #[]) ∧ WSt w' B b (F ++ bxT r0 r1 r2 r3) ∧ PK B b u w') := hide (fun F u h hg hl => box_any B b F r0 r1 r2 r3 u h (hg u (Below.refl _ _)) hm hl)
  have HL2 := hide (bxT_len r0 r1 r2 r3)
  generalize bxT r0 r1 r2 r3 = U2 at *
  have T1 : joinT [⟨#[102]⟩] ++ [10] = [102, 10] := by simp [joinT, Lib.join, List.intercalate, List.intersperse]
  have C1 := hide (line_of B b 1 [⟨#[102]⟩] _ rfl (by omega) T1 (by simp))
  simp only [List.map_cons, List.map_nil] at C1
  have hb := (Below.refl w.heap.size w).alloc (Nat.le_refl _) (.cells #[.int .i64 k, .int .i64 f, .int .i64 s, .int .i64 x0, .int .i64 y0, .slice a n c, .int .i64 r0, .int .i64 r1, .int .i64 r2, .int .i64 r3] 38)
  have k1 := Blk.new w #[.int .i64 k, .int .i64 f, .int .i64 s, .int .i64 x0, .int .i64 y0, .slice a n c, .int .i64 r0, .int .i64 r1, .int .i64 r2, .int .i64 r3] 38
  have HWS := hide (h.below hb)
  have HG := hide (hg.on (hb.mono h.hB))
  have HPK := hide (PK.of_below (b := b) hb h.hB)
  have HNE : Hid (w.heap.size ≠ b) := hide (by have := h.lt; omega)
  have HFL := hide hl
  clear h hg hl T1 hm
  go_enter Tryd.func36, Tryd.ntmps36
  go_upto_region 1 with (fail)
  obtain ⟨R, hR⟩ : ∃ R, w.heap.size = R := ⟨_, rfl⟩
  rw [hR] at k1
  have HK := hide k1
  generalize w.alloc (.cells #[.int .i64 k, .int .i64 f, .int .i64 s, .int .i64 x0, .int .i64 y0, .slice a n c, .int .i64 r0, .int .i64 r1, .int .i64 r2, .int .i64 r3] 38) = V at HK HWS HG HPK ⊢
  simp only [hR]
  have HNR : Hid (R ≠ b) := hide (by rw [← hR]; exact HNE.out)
  clear hb k1 hR HNE
  have q6 := HK.out.cell 6
  have q7 := HK.out.cell 7
  have q8 := HK.out.cell 8
  have q9 := HK.out.cell 9
  have qlt := HK.out.lt
  simp only [List.getElem?_toArray, List.getElem?_cons_succ, List.getElem?_cons_zero] at q6 q7 q8 q9
  go_wp2_with fail
  refine (CB.out F _ HWS.out HG.out (by (try simp only [List.length_append, List.length_cons, List.length_nil]); have := HFL.out; have := HL2.out; omega)).mono ?_
  rintro e w1 ⟨rfl, hws, hpk⟩
  have HWS0 := HWS
  have HK0 := HK
  have HG0 := HG
  have HPK0 := HPK
  replace HWS := hide hws
  replace HK := hide (hpk.blk HK0.out HNR.out tm_ne)
  replace HG := hide (HG0.out.on hpk.below)
  replace HPK := hide (HPK0.out.trans hpk)
  clear HWS0 HK0 HG0 HPK0 hws hpk q6 q7 q8 q9 qlt
  go_wp2_with fail
  refine (C1.out _ _ HWS.out (by (try simp only [List.length_append, List.length_cons, List.length_nil]); have := HFL.out; have := HL2.out; omega)).mono ?_
  rintro e w2 ⟨rfl, hws, hpk⟩
  have HWS0 := HWS
  have HK0 := HK
  have HG0 := HG
  have HPK0 := HPK
  replace HWS := hide hws
  replace HK := hide (hpk.blk HK0.out HNR.out tm_ne)
  replace HG := hide (HG0.out.on hpk.below)
  replace HPK := hide (HPK0.out.trans hpk)
  clear HWS0 HK0 HG0 HPK0 hws hpk
  go_wp2_with fail
  go_end0
  refine ⟨rfl, ?_, HPK.out⟩
  have := HWS.out
  simp only [List.append_assoc] at this ⊢
  exact this
set_option maxHeartbeats 8000000 in
theorem clip_any (B b : Nat) (F : List UInt8) (k s x0 y0 r0 r1 r2 r3 : Int) (f : Int) (a : Option Addr) (n c : Nat) (gs : List Int) (w : World) (h : WSt w B b F) (hg : GB B w) (hm : R3.mayB r0 r1 r2 r3 = true) (hl : F.length ≤ 800000000) :
    Calls Tryd.prog 37 #[.pointer (some ⟨b, 0, none⟩), .agg #[.int .i64 k, .int .i64 f, .int .i64 s, .int .i64 x0, .int .i64 y0, .slice a n c, .int .i64 r0, .int .i64 r1, .int .i64 r2, .int .i64 r3]] w fun e w' => e = .returned (.tuple #[]) ∧ WSt w' B b (F ++ ([113, 10] ++ (bxT r0 r1 r2 r3 ++ [87, 32, 110, 10]))) ∧ PK B b w w' := by
  have CB : Hid (∀ F u, WSt u B b F → GB B u → F.length ≤ 900000000 → Calls Tryd.prog 50 #[.pointer (some ⟨b, 0, none⟩), .agg #[.int .i64 r0, .int .i64 r1, .int .i64 r2, .int .i64 r3]] u fun e w' => e = .returned (.tuple #[]) ∧ WSt w' B b (F ++ bxT r0 r1 r2 r3) ∧ PK B b u w') := hide (fun F u h hg hl => box_any B b F r0 r1 r2 r3 u h (hg u (Below.refl _ _)) hm hl)
  have HL2 := hide (bxT_len r0 r1 r2 r3)
  generalize bxT r0 r1 r2 r3 = U2 at *
  have T1 : joinT [⟨#[113]⟩] ++ [10] = [113, 10] := by simp [joinT, Lib.join, List.intercalate, List.intersperse]
  have C1 := hide (line_of B b 1 [⟨#[113]⟩] _ rfl (by omega) T1 (by simp))
  simp only [List.map_cons, List.map_nil] at C1
  have T2 : joinT [⟨#[87, 32, 110]⟩] ++ [10] = [87, 32, 110, 10] := by simp [joinT, Lib.join, List.intercalate, List.intersperse]
  have C2 := hide (line_of B b 1 [⟨#[87, 32, 110]⟩] _ rfl (by omega) T2 (by simp))
  simp only [List.map_cons, List.map_nil] at C2
  have hb := (Below.refl w.heap.size w).alloc (Nat.le_refl _) (.cells #[.int .i64 k, .int .i64 f, .int .i64 s, .int .i64 x0, .int .i64 y0, .slice a n c, .int .i64 r0, .int .i64 r1, .int .i64 r2, .int .i64 r3] 38)
  have k1 := Blk.new w #[.int .i64 k, .int .i64 f, .int .i64 s, .int .i64 x0, .int .i64 y0, .slice a n c, .int .i64 r0, .int .i64 r1, .int .i64 r2, .int .i64 r3] 38
  have HWS := hide (h.below hb)
  have HG := hide (hg.on (hb.mono h.hB))
  have HPK := hide (PK.of_below (b := b) hb h.hB)
  have HNE : Hid (w.heap.size ≠ b) := hide (by have := h.lt; omega)
  have HFL := hide hl
  clear h hg hl T1 T2 hm
  go_enter Tryd.func37, Tryd.ntmps37
  go_upto_region 1 with (fail)
  obtain ⟨R, hR⟩ : ∃ R, w.heap.size = R := ⟨_, rfl⟩
  rw [hR] at k1
  have HK := hide k1
  generalize w.alloc (.cells #[.int .i64 k, .int .i64 f, .int .i64 s, .int .i64 x0, .int .i64 y0, .slice a n c, .int .i64 r0, .int .i64 r1, .int .i64 r2, .int .i64 r3] 38) = V at HK HWS HG HPK ⊢
  simp only [hR]
  have HNR : Hid (R ≠ b) := hide (by rw [← hR]; exact HNE.out)
  clear hb k1 hR HNE
  go_wp2_with fail
  refine (C1.out F _ HWS.out (by (try simp only [List.length_append, List.length_cons, List.length_nil]); have := HFL.out; have := HL2.out; omega)).mono ?_
  rintro e w1 ⟨rfl, hws, hpk⟩
  have HWS0 := HWS
  have HK0 := HK
  have HG0 := HG
  have HPK0 := HPK
  replace HWS := hide hws
  replace HK := hide (hpk.blk HK0.out HNR.out tm_ne)
  replace HG := hide (HG0.out.on hpk.below)
  replace HPK := hide (HPK0.out.trans hpk)
  clear HWS0 HK0 HG0 HPK0 hws hpk
  have q6 := HK.out.cell 6
  have q7 := HK.out.cell 7
  have q8 := HK.out.cell 8
  have q9 := HK.out.cell 9
  have qlt := HK.out.lt
  simp only [List.getElem?_toArray, List.getElem?_cons_succ, List.getElem?_cons_zero] at q6 q7 q8 q9
  go_wp2_with fail
  refine (CB.out _ _ HWS.out HG.out (by (try simp only [List.length_append, List.length_cons, List.length_nil]); have := HFL.out; have := HL2.out; omega)).mono ?_
  rintro e w2 ⟨rfl, hws, hpk⟩
  have HWS0 := HWS
  have HK0 := HK
  have HG0 := HG
  have HPK0 := HPK
  replace HWS := hide hws
  replace HK := hide (hpk.blk HK0.out HNR.out tm_ne)
  replace HG := hide (HG0.out.on hpk.below)
  replace HPK := hide (HPK0.out.trans hpk)
  clear HWS0 HK0 HG0 HPK0 hws hpk q6 q7 q8 q9 qlt
  go_wp2_with fail
  refine (C2.out _ _ HWS.out (by (try simp only [List.length_append, List.length_cons, List.length_nil]); have := HFL.out; have := HL2.out; omega)).mono ?_
  rintro e w3 ⟨rfl, hws, hpk⟩
  have HWS0 := HWS
  have HK0 := HK
  have HG0 := HG
  have HPK0 := HPK
  replace HWS := hide hws
  replace HK := hide (hpk.blk HK0.out HNR.out tm_ne)
  replace HG := hide (HG0.out.on hpk.below)
  replace HPK := hide (HPK0.out.trans hpk)
  clear HWS0 HK0 HG0 HPK0 hws hpk
  go_wp2_with fail
  go_end0
  refine ⟨rfl, ?_, HPK.out⟩
  have := HWS.out
  simp only [List.append_assoc] at this ⊢
  exact this
set_option maxHeartbeats 8000000 in
theorem end_any (B b : Nat) (F : List UInt8) (k s x0 y0 r0 r1 r2 r3 : Int) (f : Int) (a : Option Addr) (n c : Nat) (gs : List Int) (w : World) (h : WSt w B b F) (hg : GB B w)  (hl : F.length ≤ 800000000) :
    Calls Tryd.prog 38 #[.pointer (some ⟨b, 0, none⟩), .agg #[.int .i64 k, .int .i64 f, .int .i64 s, .int .i64 x0, .int .i64 y0, .slice a n c, .int .i64 r0, .int .i64 r1, .int .i64 r2, .int .i64 r3]] w fun e w' => e = .returned (.tuple #[]) ∧ WSt w' B b (F ++ [81, 10]) ∧ PK B b w w' := by
  have T1 : joinT [⟨#[81]⟩] ++ [10] = [81, 10] := by simp [joinT, Lib.join, List.intercalate, List.intersperse]
  have C1 := hide (line_of B b 1 [⟨#[81]⟩] _ rfl (by omega) T1 (by simp))
  simp only [List.map_cons, List.map_nil] at C1
  have hb := (Below.refl w.heap.size w).alloc (Nat.le_refl _) (.cells #[.int .i64 k, .int .i64 f, .int .i64 s, .int .i64 x0, .int .i64 y0, .slice a n c, .int .i64 r0, .int .i64 r1, .int .i64 r2, .int .i64 r3] 38)
  have k1 := Blk.new w #[.int .i64 k, .int .i64 f, .int .i64 s, .int .i64 x0, .int .i64 y0, .slice a n c, .int .i64 r0, .int .i64 r1, .int .i64 r2, .int .i64 r3] 38
  have HWS := hide (h.below hb)
  have HG := hide (hg.on (hb.mono h.hB))
  have HPK := hide (PK.of_below (b := b) hb h.hB)
  have HNE : Hid (w.heap.size ≠ b) := hide (by have := h.lt; omega)
  have HFL := hide hl
  clear h hg hl T1
  go_enter Tryd.func38, Tryd.ntmps38
  go_upto_region 1 with (fail)
  obtain ⟨R, hR⟩ : ∃ R, w.heap.size = R := ⟨_, rfl⟩
  rw [hR] at k1
  have HK := hide k1
  generalize w.alloc (.cells #[.int .i64 k, .int .i64 f, .int .i64 s, .int .i64 x0, .int .i64 y0, .slice a n c, .int .i64 r0, .int .i64 r1, .int .i64 r2, .int .i64 r3] 38) = V at HK HWS HG HPK ⊢
  simp only [hR]
  have HNR : Hid (R ≠ b) := hide (by rw [← hR]; exact HNE.out)
  clear hb k1 hR HNE
  go_wp2_with fail
  refine (C1.out F _ HWS.out (by have := HFL.out; omega)).mono ?_
  rintro e w1 ⟨rfl, hws, hpk⟩
  have HWS0 := HWS
  have HK0 := HK
  have HG0 := HG
  have HPK0 := HPK
  replace HWS := hide hws
  replace HK := hide (hpk.blk HK0.out HNR.out tm_ne)
  replace HG := hide (HG0.out.on hpk.below)
  replace HPK := hide (HPK0.out.trans hpk)
  clear HWS0 HK0 HG0 HPK0 hws hpk
  go_wp2_with fail
  go_end0
  exact ⟨rfl, HWS.out, HPK.out⟩
end Go.Proofs.YthhhepbflggojaaDoor.E15
