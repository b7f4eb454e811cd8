/-
  The law ObjBack, walked: of any object that lies and any text.
-/
import Derived.Test.YtalmcdbdibpgkaaGreatDoorO5Bp
import Derived.Test.YtalmcdbdibpgkaaGreatDoorBD
namespace Go.Proofs.YtalmcdbdibpgkaaGreatDoor
open Go.RowKit Go.Deep
set_option linter.unusedVariables false

theorem bytes_toArray (l : List UInt8) : (⟨l.toArray⟩ : ByteArray).data.toList = l := by simp
theorem bytes_size (l : List UInt8) : (⟨l.toArray⟩ : ByteArray).size = l.length := by rw [Lib.size_eq]
theorem app_blank (l : List UInt8) : ((⟨l.toArray⟩ : ByteArray) ++ ⟨#[32]⟩).data.toList = l ++ [32] := by simp [ByteArray.data_append]
theorem app_blank_size (l : List UInt8) : ((⟨l.toArray⟩ : ByteArray) ++ ⟨#[32]⟩).size = l.length + 1 := by
  rw [Lib.size_eq, app_blank]
  simp
/- the second half: what is read is printed and read as itself -/
set_option maxRecDepth 8000 in
set_option maxHeartbeats 2000000 in
theorem objBack_walk (p : Pay) (T : BT Pay) (ka : Option Addr) (kc : Nat) (ia : Option Addr) (ic : Nat) (s : ByteArray) (w : World) (hp : OIn w p T ka kc ia ic) (hg : Glo5 w) :
    Calls Tryz.prog 5 #[ov p ka kc ia (flen T) ic, .string s] w fun e w' => e = .returned (.bool true) ∧ Below w.heap.size w w' := by
  have hb0 : Below w.heap.size w (w.alloc (.cells (obox p ka kc ia (flen T) ic) 25)) := (Below.refl _ _).alloc (Nat.le_refl _) _
  have HA := hide (six_box w p ka kc ia (flen T) ic 25)
  have hz : w.heap.size < (w.alloc (.cells (obox p ka kc ia (flen T) ic) 25)).heap.size := by simp
  have HP := hide hp
  have HB := hide hb0
  have HG := hide hg
  have CW := hide wakes_any
  have CL := hide (large_any p T ka kc ia ic _ (hp.below hb0))
  have CC := hide (fun x h => rcopy_any p T ka kc ia ic x (OIn.below (w := w) (w' := x) h hp))
  clear hp hb0 hg
  go_enter Tryz.func5, Tryz.ntmps5
  go_wp2_with fail
  refine CL.out.mono ?_
  rintro e w1 ⟨⟨r, rfl⟩, h1⟩
  have H1 := hide (below_t5 HB.out h1)
  have hz1 : w.heap.size < w1.heap.size := Nat.lt_of_lt_of_le hz h1.size
  have HA1 := hide (HA.out.below hz h1)
  clear h1 HA HB hz CL
  cases r
  case true =>
    go_wp2_with fail
    refine (CW.out _).mono ?_
    rintro e w2 ⟨rfl, h2⟩
    go_wp2_with fail
    go_ret
    exact ⟨rfl, below_t5 H1.out h2⟩
  by_cases hs : s.size ≤ 20000
  case neg =>
    have hs1 : decide ((20000 : Int) < (s.size : Int)) = true := by simp; omega
    go_wp2_with fail
    refine (CW.out _).mono ?_
    rintro e w2 ⟨rfl, h2⟩
    go_wp2_with fail
    go_ret
    exact ⟨rfl, below_t5 H1.out h2⟩
  have hs1 : decide ((20000 : Int) < (s.size : Int)) = false := by simp; omega
  have CP2 := parse_text s hs
  have hs2 : (s.size : Int) ≤ 20000 := by omega
  clear hs
  obtain ⟨s0, s1, s2, s3, s4, s5⟩ := HA1.out
  simp only [Nat.zero_add] at s1 s2 s3 s4 s5
  go_wp2_with fail
  refine (CC.out _ H1.out).mono ?_
  rintro e w2 ⟨⟨kb, kd, ib, id, rfl, hin2⟩, h2⟩
  have hin3 : OIn w2 p T kb kd ib id := hin2.sub (fresh_sub _ _)
  have H2 := hide (below_t5 H1.out h2)
  have hz2 : w.heap.size < w2.heap.size := Nat.lt_of_lt_of_le hz1 h2.size
  have HA2 := hide (HA1.out.below hz1 h2)
  have CP := hide (oprint_any p T kb kd ib id w2 hin3 (HG.out.below H2.out).base)
  clear h2 hin2 hin3 s0 s1 s2 s3 s4 s5 HA1 H1 hz1 CC
  go_wp2_with fail
  refine CP.out.mono ?_
  rintro e w3 ⟨rfl, h3⟩
  have H3 := hide (below_t5 H2.out h3)
  have HA3 := hide (HA2.out.below hz2 h3)
  have hz3 : w.heap.size < w3.heap.size := Nat.lt_of_lt_of_le hz2 h3.size
  clear h3 HA2 H2 hz2 CP
  rcases prV_cases p T with ⟨hgd, hln, hpr⟩ | ⟨E, hE, hpr⟩
  · rw [hpr]
    have CB := hide (parse_back p T hgd (⟨(objT p T).toArray⟩ ++ ⟨#[32]⟩) [32] (app_blank _) (gr_bl (by simp [Bls, isBl])) (by rw [app_blank_size]; omega) w3 (HG.out.below H3.out))
    have hsz := bytes_size (objT p T)
    rw [← hsz] at CB
    have hsm : ((⟨(objT p T).toArray⟩ : ByteArray).size : Int) ≤ 1048576 := by rw [hsz]; omega
    generalize (⟨(objT p T).toArray⟩ : ByteArray) = S at CB hsm ⊢
    clear hpr hsz hln
    go_wp2_with fail
    refine CB.out.mono ?_
    rintro e w4 ⟨⟨kx, ky, ix, iy, rfl, hinx⟩, h4⟩
    have hal := (Below.refl w4.heap.size w4).alloc (Nat.le_refl _) (.cells (obox p kx ky ix (flen (strip T)) iy) 25)
    have H5 := hide (below_t5 (below_t5 H3.out h4) hal)
    obtain ⟨t0, t1, t2, t3, t4, t5⟩ := (HA3.out.below hz3 h4).below (Nat.lt_of_lt_of_le hz3 h4.size) hal
    obtain ⟨⟨x0, x1, x2, x3, x4, x5⟩, _⟩ := (Blk.new w4 (obox p kx ky ix (flen (strip T)) iy) 25).six
    simp only [Nat.zero_add] at t1 t2 t3 t4 t5
    have CS := hide (rsame_any p p (strip T) T kx ka ky kc ix ia iy ic _ (hinx.below hal) (HP.out.below H5.out))
    rw [(sameV_strip p T).1] at CS
    clear hinx hal h4 CB
    go_wp2_with fail
    refine CS.out.mono ?_
    rintro e w6 ⟨rfl, h6⟩
    have H6 := hide (below_t5 H5.out h6)
    clear h6 CS x0 x1 x2 x3 x4 x5 t0 t1 t2 t3 t4 t5 H5 H3 hgd HA3
    rcases CP2 with CP2 | ⟨p2, T2, q2, hg2, hl2, hq0, hq1, CP2⟩
    · have C2 := hide (CP2 _ (HG.out.below H6.out))
      clear CP2
      go_wp2_with fail
      refine C2.out.mono ?_
      rintro e w7 ⟨rfl, h7⟩
      have hal := (Below.refl w7.heap.size w7).alloc (Nat.le_refl _) (.cells zobj 25)
      have H7 := hide (below_t5 (below_t5 H6.out h7) hal)
      obtain ⟨⟨x0, x1, x2, x3, x4, x5⟩, _⟩ := (Blk.new w7 zobj 25).six
      have hzi : OIn (w7.alloc (.cells zobj 25)) (zp 0 false 0) .nil none 0 none 0 := oin_leaf _ _ (zp_okq 0 false 0 (by omega) (by omega)) rfl
      have CS := hide (rsame_any (zp 0 false 0) (zp 0 false 0) .nil .nil none none 0 0 none none 0 0 _ hzi hzi)
      rw [sameV_refl] at CS
      clear hzi hal h7 C2
      go_wp2_with (first
        | (go_at_call 13; refine CS.out.mono ?_; rintro e w8 ⟨rfl, h8⟩; have H8 := hide (below_t5 H7.out h8); clear h8)
        | (go_at_call 9; refine (CW.out _).mono ?_; rintro e w9 ⟨rfl, h9⟩; have H9 := hide (below_t5 H8.out h9); clear h9))
      go_ret
      exact ⟨rfl, H9.out⟩
    · have C2 := hide (CP2 _ (HG.out.below H6.out))
      clear CP2
      go_wp2_with fail
      refine C2.out.mono ?_
      rintro e w7 ⟨⟨kx2, ky2, ix2, iy2, rfl, hin2⟩, h7⟩
      have hal := (Below.refl w7.heap.size w7).alloc (Nat.le_refl _) (.cells (obox p2 kx2 ky2 ix2 (flen T2) iy2) 25)
      have H8 := hide (below_t5 (below_t5 H6.out h7) hal)
      have HX8 := hide (Blk.new w7 (obox p2 kx2 ky2 ix2 (flen T2) iy2) 25)
      have HI8 := hide (hin2.below hal)
      have CPr := hide (oprint_any p2 T2 kx2 ky2 ix2 iy2 _ HI8.out (HG.out.below H8.out).base)
      rw [prV_good p2 T2 hg2 hl2] at CPr
      obtain ⟨⟨x0, x1, x2, x3, x4, x5⟩, _⟩ := HX8.out.six
      clear hal h7 hin2 C2
      go_wp2_with fail
      refine CPr.out.mono ?_
      rintro e w9 ⟨rfl, h9⟩
      have H9 := hide (below_t5 H8.out h9)
      have HX9 := hide (HX8.out.below h9)
      have HI9 := hide (HI8.out.below h9)
      have CB2 := hide (parse_back p2 T2 hg2 ⟨(objT p2 T2).toArray⟩ [] (by simp) gr_nil (by rw [bytes_size]; omega) w9 (HG.out.below H9.out))
      have hsz2 := bytes_size (objT p2 T2)
      rw [← hsz2] at CB2
      have hsm2 : ((⟨(objT p2 T2).toArray⟩ : ByteArray).size : Int) ≤ 1048576 := by rw [hsz2]; omega
      generalize (⟨(objT p2 T2).toArray⟩ : ByteArray) = U at CB2 hsm2 ⊢
      clear h9 x0 x1 x2 x3 x4 x5 HX8 HI8 H8 CPr hsz2 hl2
      go_wp2_with fail
      refine CB2.out.mono ?_
      rintro e w10 ⟨⟨kx3, ky3, ix3, iy3, rfl, hin3⟩, h10⟩
      have hal := (Below.refl w10.heap.size w10).alloc (Nat.le_refl _) (.cells (obox p2 kx3 ky3 ix3 (flen (strip T2)) iy3) 25)
      have H11 := hide (below_t5 (below_t5 H9.out h10) hal)
      have HX11 := hide ((HX9.out.below h10).below hal)
      have HI11 := hide ((HI9.out.below h10).below hal)
      have HY11 := hide (Blk.new w10 (obox p2 kx3 ky3 ix3 (flen (strip T2)) iy3) 25)
      have HJ11 := hide (hin3.below hal)
      have CG := hide (oGood_any p2 T2 kx2 ky2 ix2 iy2 _ HI11.out)
      rw [decide_eq_true hg2] at CG
      obtain ⟨⟨x0, x1, x2, x3, x4, x5⟩, _⟩ := HX11.out.six
      clear hal h10 hin3 CB2 HX9 HI9 H9 hg2
      go_wp2_with fail
      refine CG.out.mono ?_
      rintro e w12 ⟨rfl, h12⟩
      have H12 := hide (below_t5 H11.out h12)
      have CS := hide (rsame_any p2 p2 T2 (strip T2) kx2 kx3 ky2 ky3 ix2 ix3 iy2 iy3 w12 (HI11.out.below h12) (HJ11.out.below h12))
      rw [(sameV_strip p2 T2).2] at CS
      clear x0 x1 x2 x3 x4 x5
      obtain ⟨⟨x0, x1, x2, x3, x4, x5⟩, _⟩ := (HX11.out.below h12).six
      obtain ⟨⟨y0, y1, y2, y3, y4, y5⟩, _⟩ := (HY11.out.below h12).six
      clear h12 HX11 HI11 HY11 HJ11 H11 CG
      go_wp2_with (first
        | (go_at_call 13; refine CS.out.mono ?_; rintro e w13 ⟨rfl, h13⟩; have H13 := hide (below_t5 H12.out h13); clear h13)
        | (go_at_call 9; refine (CW.out _).mono ?_; rintro e w14 ⟨rfl, h14⟩; have H14 := hide (below_t5 H13.out h14); clear h14))
      go_ret
      exact ⟨rfl, H14.out⟩
  · rw [hpr]
    have hE0 : (E == 0) = false := by rw [beq_eq_false_iff_ne]; omega
    clear hpr hE HA3
    rcases CP2 with CP2 | ⟨p2, T2, q2, hg2, hl2, hq0, hq1, CP2⟩
    · have C2 := hide (CP2 _ (HG.out.below H3.out))
      clear CP2
      go_wp2_with fail
      refine C2.out.mono ?_
      rintro e w7 ⟨rfl, h7⟩
      have hal := (Below.refl w7.heap.size w7).alloc (Nat.le_refl _) (.cells zobj 25)
      have H7 := hide (below_t5 (below_t5 H3.out h7) hal)
      obtain ⟨⟨x0, x1, x2, x3, x4, x5⟩, _⟩ := (Blk.new w7 zobj 25).six
      have hzi : OIn (w7.alloc (.cells zobj 25)) (zp 0 false 0) .nil none 0 none 0 := oin_leaf _ _ (zp_okq 0 false 0 (by omega) (by omega)) rfl
      have CS := hide (rsame_any (zp 0 false 0) (zp 0 false 0) .nil .nil none none 0 0 none none 0 0 _ hzi hzi)
      rw [sameV_refl] at CS
      clear hzi hal h7 C2
      go_wp2_with (first
        | (go_at_call 13; refine CS.out.mono ?_; rintro e w8 ⟨rfl, h8⟩; have H8 := hide (below_t5 H7.out h8); clear h8)
        | (go_at_call 9; refine (CW.out _).mono ?_; rintro e w9 ⟨rfl, h9⟩; have H9 := hide (below_t5 H8.out h9); clear h9))
      go_ret
      exact ⟨rfl, H9.out⟩
    · have C2 := hide (CP2 _ (HG.out.below H3.out))
      clear CP2
      go_wp2_with fail
      refine C2.out.mono ?_
      rintro e w7 ⟨⟨kx2, ky2, ix2, iy2, rfl, hin2⟩, h7⟩
      have hal := (Below.refl w7.heap.size w7).alloc (Nat.le_refl _) (.cells (obox p2 kx2 ky2 ix2 (flen T2) iy2) 25)
      have H8 := hide (below_t5 (below_t5 H3.out h7) hal)
      have HX8 := hide (Blk.new w7 (obox p2 kx2 ky2 ix2 (flen T2) iy2) 25)
      have HI8 := hide (hin2.below hal)
      have CPr := hide (oprint_any p2 T2 kx2 ky2 ix2 iy2 _ HI8.out (HG.out.below H8.out).base)
      rw [prV_good p2 T2 hg2 hl2] at CPr
      obtain ⟨⟨x0, x1, x2, x3, x4, x5⟩, _⟩ := HX8.out.six
      clear hal h7 hin2 C2
      go_wp2_with fail
      refine CPr.out.mono ?_
      rintro e w9 ⟨rfl, h9⟩
      have H9 := hide (below_t5 H8.out h9)
      have HX9 := hide (HX8.out.below h9)
      have HI9 := hide (HI8.out.below h9)
      have CB2 := hide (parse_back p2 T2 hg2 ⟨(objT p2 T2).toArray⟩ [] (by simp) gr_nil (by rw [bytes_size]; omega) w9 (HG.out.below H9.out))
      have hsz2 := bytes_size (objT p2 T2)
      rw [← hsz2] at CB2
      have hsm2 : ((⟨(objT p2 T2).toArray⟩ : ByteArray).size : Int) ≤ 1048576 := by rw [hsz2]; omega
      generalize (⟨(objT p2 T2).toArray⟩ : ByteArray) = U at CB2 hsm2 ⊢
      clear h9 x0 x1 x2 x3 x4 x5 HX8 HI8 H8 CPr hsz2 hl2
      go_wp2_with fail
      refine CB2.out.mono ?_
      rintro e w10 ⟨⟨kx3, ky3, ix3, iy3, rfl, hin3⟩, h10⟩
      have hal := (Below.refl w10.heap.size w10).alloc (Nat.le_refl _) (.cells (obox p2 kx3 ky3 ix3 (flen (strip T2)) iy3) 25)
      have H11 := hide (below_t5 (below_t5 H9.out h10) hal)
      have HX11 := hide ((HX9.out.below h10).below hal)
      have HI11 := hide ((HI9.out.below h10).below hal)
      have HY11 := hide (Blk.new w10 (obox p2 kx3 ky3 ix3 (flen (strip T2)) iy3) 25)
      have HJ11 := hide (hin3.below hal)
      have CG := hide (oGood_any p2 T2 kx2 ky2 ix2 iy2 _ HI11.out)
      rw [decide_eq_true hg2] at CG
      obtain ⟨⟨x0, x1, x2, x3, x4, x5⟩, _⟩ := HX11.out.six
      clear hal h10 hin3 CB2 HX9 HI9 H9 hg2
      go_wp2_with fail
      refine CG.out.mono ?_
      rintro e w12 ⟨rfl, h12⟩
      have H12 := hide (below_t5 H11.out h12)
      have CS := hide (rsame_any p2 p2 T2 (strip T2) kx2 kx3 ky2 ky3 ix2 ix3 iy2 iy3 w12 (HI11.out.below h12) (HJ11.out.below h12))
      rw [(sameV_strip p2 T2).2] at CS
      clear x0 x1 x2 x3 x4 x5
      obtain ⟨⟨x0, x1, x2, x3, x4, x5⟩, _⟩ := (HX11.out.below h12).six
      obtain ⟨⟨y0, y1, y2, y3, y4, y5⟩, _⟩ := (HY11.out.below h12).six
      clear h12 HX11 HI11 HY11 HJ11 H11 CG
      go_wp2_with (first
        | (go_at_call 13; refine CS.out.mono ?_; rintro e w13 ⟨rfl, h13⟩; have H13 := hide (below_t5 H12.out h13); clear h13)
        | (go_at_call 9; refine (CW.out _).mono ?_; rintro e w14 ⟨rfl, h14⟩; have H14 := hide (below_t5 H13.out h14); clear h14))
      go_ret
      exact ⟨rfl, H14.out⟩
end Go.Proofs.YtalmcdbdibpgkaaGreatDoor
