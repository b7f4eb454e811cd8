/-
  The law ObjList, walked: of any objects that lie beside one another and any ints.
-/
import Derived.Test.YtalmcdbdibpgkaaGreatDoorO5Bq
import Derived.Test.YtalmcdbdibpgkaaGreatDoorO5Lrx
import Derived.Test.YtalmcdbdibpgkaaGreatDoorBD
import Derived.Test.YtalmcdbdibpgkaaGreatDoorO5Opo
import Derived.Deep.CutRange
namespace Go.Proofs.YtalmcdbdibpgkaaGreatDoor
open Go.RowKit Go.Deep
set_option linter.unusedVariables false

abbrev abx (k : Option Addr) (kc : Nat) (i : Option Addr) (n ic : Nat) : Array Value := #[.int .i64 6, .bool false, .int .i64 0, .string ⟨#[]⟩, .slice k 0 kc, .slice i n ic]
abbrev blkS : ByteArray := ⟨#[9, 10, 12, 13, 32]⟩
/- a byte, as a text -/
theorem one_text (w : World) (c : UInt8) : (convert 43 9 (.slice (some ⟨w.heap.size, 0, none⟩) 1 1)).run Tryz.prog (w.alloc (.cells #[.int .u8 (c.toNat : Int)] 5)) = .ok (.string ⟨#[c]⟩) (w.alloc (.cells #[.int .u8 (c.toNat : Int)] 5)) := by
  refine run_convert_bytes_back (P := Tryz.prog) _ 43 9 5 ⟨w.heap.size, 0, none⟩ 1 [c] Tryz.underlying43 Tryz.underlying5 Tryz.underlying9 ?_
  intro k hk
  obtain rfl : k = 0 := by simpa using hk
  rw [Go.WideShapes.add_plain, Nat.zero_add, World.cell?_alloc_at _ _ _ _ rfl]
  rfl
theorem blank_of (z : Int) : ∃ y, z.tmod 5 = y ∧ -5 < y ∧ y < 5 ∧ ∃ bv : Nat, (y + 5).tmod 5 = (bv : Int) ∧ bv < 5 := by
  have h1 := Int.lt_tmod_of_pos z (show (0 : Int) < 5 by decide)
  have h2 := Int.tmod_lt_of_pos z (show (0 : Int) < 5 by decide)
  refine ⟨_, rfl, h1, h2, ((z.tmod 5 + 5).tmod 5).toNat, ?_⟩
  generalize z.tmod 5 = y at h1 h2 ⊢
  rw [Int.tmod_eq_emod_of_nonneg (by omega)]
  omega
theorem blk_at (i : Nat) (h : i < (⟨#[9, 10, 12, 13, 32]⟩ : ByteArray).size) : isBl ((⟨#[9, 10, 12, 13, 32]⟩ : ByteArray)[i]).toNat = true := by
  have h5 : i < 5 := h
  rcases (show i = 0 ∨ i = 1 ∨ i = 2 ∨ i = 3 ∨ i = 4 by omega) with rfl | rfl | rfl | rfl | rfl <;> rfl
structure LI (w : World) (T : BT Pay) (b off : Nat) (k : Nat) (qs : List (UInt8 × Ent)) (U : BT Pay) (S : ByteArray) (m : Int) (v : Value) (wr : World) : Prop where
  len : flen U + k = flen T
  rows : Rows w U b (off + k * 6)
  ql : qs.length = k
  text : S.data.toList = 91 :: seqT qs
  ok : SeqOk qs
  sum : m = fsize (forest (ents qs))
  own : wr.ownsRow w.heap.size 25 6 v (ents qs).length (ecells (ents qs))
  lies : ∀ x ∈ ents qs, x.lies w
  below : Below w.heap.size w wr
  cnt : m ≤ 65536 * (k : Int)
theorem LI.next {w : World} {T : BT Pay} {b off k b0 o0 : Nat} {qs : List (UInt8 × Ent)} {q : Pay} {TT N : BT Pay} {S tx : ByteArray} {m : Int} {v v' : Value} {wr w6 : World} {ka ja : Option Addr} {kc jc : Nat} {c : UInt8} (h : LI w T b off k qs (.node b0 o0 q TT N) S m v wr)
    (hN : Rows w N b (off + k * 6 + 6)) (hc : isBl c.toNat = true) (htx : tx.data.toList = objT q TT ∧ fine q TT ∧ (objT q TT).length ≤ 600000) (hin : OIn w q TT ka kc ja jc)
    (hown : w6.ownsRow w.heap.size 25 6 v' (ents qs ++ ([⟨0, 0, q, TT, ka, kc, ja, jc⟩] : List Ent)).length (ecells (ents qs ++ ([⟨0, 0, q, TT, ka, kc, ja, jc⟩] : List Ent)))) (hb : Below w.heap.size w w6) (hfs : (fsize TT : Int) < 65536) :
    LI w T b off (k + 1) (qs ++ [(c, ⟨0, 0, q, TT, ka, kc, ja, jc⟩)]) N (S ++ (⟨#[c]⟩ ++ tx)) (m + ((fsize TT : Int) + 1)) v' w6 := by
  have he : ents (qs ++ [(c, ⟨0, 0, q, TT, ka, kc, ja, jc⟩)]) = ents qs ++ ([⟨0, 0, q, TT, ka, kc, ja, jc⟩] : List Ent) := by simp
  refine ⟨?_, ?_, ?_, ?_, ?_, ?_, ?_, ?_, hb, ?_⟩
  · have := h.len; simp only [flen] at this; omega
  · rw [show off + (k + 1) * 6 = off + k * 6 + 6 by omega]; exact hN
  · simp [h.ql]
  · rw [seqT_snoc, ByteArray.data_append, ByteArray.data_append]
    simp [h.text, htx.1]
  · intro x hx
    rcases List.mem_append.1 hx with hx | hx
    · exact h.ok x hx
    · obtain rfl : x = (c, ⟨0, 0, q, TT, ka, kc, ja, jc⟩) := by simpa using hx
      exact ⟨hc, htx.2.1, htx.2.2⟩
  · rw [he, fsize_snoc, h.sum]
    simp only
    omega
  · rw [he]; exact hown
  · rw [he]
    intro x hx
    rcases List.mem_append.1 hx with hx | hx
    · exact h.lies x hx
    · obtain rfl : x = ⟨0, 0, q, TT, ka, kc, ja, jc⟩ := by simpa using hx
      exact hin
  · have := h.cnt; omega
set_option maxRecDepth 8000 in
set_option maxHeartbeats 4000000 in
theorem objList_walk (T : BT Pay) (ia : Option Addr) (ic : Nat) (za : Option Addr) (zn zc : Nat) (zs : List Int) (w : World) (hin : ObjsIn w T ia ic) (hz : ZRow w za zn zc zs) (hg : Glo5 w) :
    Calls Tryz.prog 6 #[.slice ia (flen T) ic, .slice za zn zc] w fun e w' => e = .returned (.bool true) ∧ Below w.heap.size w w' := by
  have CW := hide wakes_any
  have HG := hide hg
  have HZ := hide hz
  have HN := hide hin
  have hl1 : (flen T : Int) ≤ 1599289640401 := by have h := hin.1; omega
  have hl0 : (0 : Int) ≤ (flen T : Int) := by omega
  have hzn : (zn : Int) ≤ 9223372036854775807 := by have h1 := hz.2.1; have h2 := hz.2.2.1; omega
  by_cases hs : flen T ≤ 20
  case neg =>
    have h1 : decide ((20 : Int) < (flen T : Int)) = true := by simp; omega
    clear hin hz hg
    go_enter Tryz.func6, Tryz.ntmps6
    go_wp2_with (go_at_call 9; refine (CW.out _).mono ?_; rintro e w7 ⟨rfl, h7⟩)
    go_ret
    exact ⟨rfl, h7⟩
  have h20 : decide ((20 : Int) < (flen T : Int)) = false := by simp; omega
  have hs20 : (flen T : Int) ≤ 20 := by omega
  obtain ⟨b, off, hia, hrows⟩ : ∃ b off, (T = .nil ∨ (ia = some ⟨b, off, none⟩ ∧ b < w.heap.size)) ∧ Rows w T b off := by
    obtain ⟨_, _, h | ⟨b, off, e, hl, hT⟩⟩ := hin
    · have := flen_zero h
      subst this
      exact ⟨0, 0, Or.inl rfl, trivial⟩
    · exact ⟨b, off, Or.inr ⟨e, hl⟩, hT⟩
  have HRW := hide hrows
  have HIA := hide hia
  clear hin hz hg hrows hia hs
  go_enter Tryz.func6, Tryz.ntmps6
  go_wp2_with fail
  go_loopw [5, 6, 7, 8] (fun vs vr vn vi wr => ∃ (k : Nat) (qs : List (UInt8 × Ent)) (U : BT Pay) (S : ByteArray) (m : Int), vs = .string S ∧ vn = .int .i64 m ∧ vi = .int .i64 k ∧ Hid (LI w T b off k qs U S m vr wr)) (fun _ _ _ vi _ => flen T - (intOf vi).toNat)
  case atStart => exact ⟨0, [], T, ⟨#[91]⟩, 0, rfl, rfl, rfl, hide ⟨by omega, by simpa using HRW.out, rfl, rfl, by simp [SeqOk], rfl, World.ownsRow_nil _ _ _ _, by simp, Below.refl _ _, by omega⟩⟩
  case round =>
    obtain ⟨k, qs, U, S, m, rfl, rfl, rfl, HV⟩ := hrel
    have hV := HV.out
    have hk0 : (0 : Int) ≤ (k : Int) := by omega
    have HB := hide hV.below
    cases U with
    | nil =>
      have hkT : (k : Int) = (flen T : Int) := by have := hV.len; simp [flen] at this; omega
      have hk20 : k ≤ 20 := by omega
      have hSsz : S.size = (seqT qs).length + 1 := by rw [Lib.size_eq, hV.text]; simp
      have hsl : (seqT qs).length ≤ 12000020 := by
        have h1 := seqT_len qs hV.ok
        have h2 := hV.ql
        omega
      have hSz : (S.size : Int) ≤ 12000021 := by omega
      obtain ⟨fa, fc, rfl, hwant⟩ := row_items (W := w) hV.own (fun x hx => OIn.below hV.below (hV.lies x hx)) (by simp [hV.ql]; omega)
      have hm0 : 0 ≤ m := by rw [hV.sum]; omega
      have hm1 : m ≤ 1310720 := by have := hV.cnt; omega
      obtain ⟨F, hF⟩ : ∃ F, forest (ents qs) = F := ⟨_, rfl⟩
      rw [hF] at hwant
      have hfl : flen (forest (ents qs)) = flen F := by rw [hF]
      rw [hfl]
      have hal := (Below.refl wr.heap.size wr).alloc (Nat.le_refl _) (.cells (abx none 0 fa (flen F) fc) 25)
      have H1 := hide (below_t5 hV.below hal)
      have HA1 := hide (Blk.new wr (abx none 0 fa (flen F) fc) 25)
      have HI1 := hide (hwant.below hal)
      have CP := parse_seq qs hV.ok (S ++ ⟨#[10, 93]⟩) (by rw [ByteArray.data_append]; simp [hV.text]) (by rw [ByteArray.size_append, hSsz]; show _ + 2 ≤ _; omega) _ (HG.out.below H1.out)
      rw [hF, show (seqT qs).length + 3 = S.size + 2 by omega] at CP
      have hmF : m = (fsize F : Int) := by rw [hV.sum, hF]
      unfold PaR at CP
      dsimp only at CP
      clear hV HV hsl hSsz hfl hF hal hwant
      by_cases hgd : 0 ≤ goodV arrP (strip F) 0 0
      · have e2 : ((S.size + 2 : Nat) : Int) = (S.size : Int) + 2 := by omega
        simp only [if_pos hgd, e2] at CP
        have hgd' : 0 < goodV arrP F 0 0 := by rw [strip_goodV] at hgd; exact good_pos _ _ hgd
        have hmL : m < 65536 := by rw [hmF]; exact good_arr F hgd'
        have CP := hide CP
        clear hgd hgd' hmF e2
        go_wp2_with fail
        refine CP.out.mono ?_
        rintro e w5 ⟨⟨kx, ky, ix, iy, rfl, hinx⟩, h5⟩
        have hal := (Below.refl w5.heap.size w5).alloc (Nat.le_refl _) (.cells (abx kx ky ix (flen (strip F)) iy) 25)
        have H5 := hide (below_t5 (below_t5 H1.out h5) hal)
        obtain ⟨⟨x0, x1, x2, x3, x4, x5⟩, _⟩ := ((HA1.out.below h5).below hal).six
        obtain ⟨⟨y0, y1, y2, y3, y4, y5⟩, _⟩ := (Blk.new w5 (abx kx ky ix (flen (strip F)) iy) 25).six
        have CS := hide (rsame_any arrP arrP (strip F) F kx none ky 0 ix fa iy fc _ ((hinx.sub (fresh_sub _ _)).below hal) ((HI1.out.below h5).below hal))
        rw [(sameV_strip arrP F).1] at CS
        clear hinx hal h5 CP HA1 HI1
        go_wp2_with (first
          | (go_at_call 13; refine CS.out.mono ?_; rintro e w6 ⟨rfl, h6⟩; have H6 := hide (below_t5 H5.out h6); clear h6)
          | (go_at_call 9; refine (CW.out _).mono ?_; rintro e w7 ⟨rfl, h7⟩; have H7 := hide (below_t5 H6.out h7); clear h7))
        go_ret
        exact ⟨rfl, H7.out⟩
      · simp only [if_neg hgd] at CP
        have hng : decide (0 < cntV arrP F) = false := by
          rw [strip_goodV] at hgd
          exact decide_eq_false (by unfold cntV; omega)
        have CP := hide CP
        clear hgd hmF
        go_wp2_with fail
        refine CP.out.mono ?_
        rintro e w5 ⟨rfl, h5⟩
        have hal := (Below.refl w5.heap.size w5).alloc (Nat.le_refl _) (.cells zobj 25)
        have H5 := hide (below_t5 (below_t5 H1.out h5) hal)
        obtain ⟨⟨x0, x1, x2, x3, x4, x5⟩, _⟩ := ((HA1.out.below h5).below hal).six
        have CG := hide (rgood_any arrP F none 0 fa fc _ ((HI1.out.below h5).below hal))
        rw [hng] at CG
        clear hal h5 CP HA1 HI1 hng
        go_wp2_with (first
          | (go_at_call 18; refine CG.out.mono ?_; rintro e w6 ⟨rfl, h6⟩; have H6 := hide (below_t5 H5.out h6); clear h6)
          | (go_at_call 9; refine (CW.out _).mono ?_; rintro e w7 ⟨rfl, h7⟩; have H7 := hide (below_t5 H6.out h7); clear h7))
        go_ret
        exact ⟨rfl, H7.out⟩
    | node b0 o0 q TT N =>
      obtain ⟨⟨ka, kc, ja, jc, g6, gin⟩, grest⟩ := rows_node.1 hV.rows
      have hlt : (k : Int) < (flen T : Int) := by have := hV.len; simp [flen] at this; omega
      obtain rfl | ⟨rfl, hbz⟩ := HIA.out
      · simp [flen] at hlt; omega
      obtain ⟨c0, c1, c2, c3, c4, c5⟩ := g6.below hbz hV.below
      have CL := hide (largex_any q TT ka kc ja jc wr (gin.below hV.below))
      have GIN := hide gin
      have G6 := hide g6
      have GR := hide grest
      clear hV gin g6 grest
      go_wp2_with fail
      refine CL.out.mono ?_
      rintro e w1 ⟨⟨r, rfl, hr⟩, h1⟩
      have H1 := hide (below_t5 HB.out h1)
      have HW1 := hide h1
      clear h1 CL c0 c1 c2 c3 c4 c5
      cases r
      case true =>
        go_wp2_with fail
        refine (CW.out _).mono ?_
        rintro e w2 ⟨rfl, h2⟩
        go_wp2_with fail
        go_ret
        exact ⟨rfl, below_t5 H1.out h2⟩
      obtain ⟨c0, c1, c2, c3, c4, c5⟩ := G6.out.below hbz H1.out
      have CC := hide (rcopy_any q TT ka kc ja jc w1 (GIN.out.below H1.out))
      have HR := hide hr
      clear hr
      go_wp2_with fail
      refine CC.out.mono ?_
      rintro e w2 ⟨⟨kb, kd, jb, jd, rfl, hin2⟩, h2⟩
      have H2 := hide (below_t5 H1.out h2)
      have HW2 := hide (below_t5 HW1.out h2)
      have CP := hide (oprint_any q TT kb kd jb jd w2 (hin2.sub (fresh_sub _ _)) (HG.out.below H2.out).base)
      clear h2 hin2 CC c0 c1 c2 c3 c4 c5 H1 HW1
      go_wp2_with fail
      refine CP.out.mono ?_
      rintro e w3 ⟨rfl, h3⟩
      have H3 := hide (below_t5 H2.out h3)
      have HW3 := hide (below_t5 HW2.out h3)
      clear h3 CP H2 HW2
      rcases prV_cases q TT with ⟨hgd, hln, hpr⟩ | ⟨E, hE, hpr⟩
      case inr =>
        rw [hpr]
        have hE0 : (E == 0) = false := by rw [beq_eq_false_iff_ne]; omega
        go_wp2_with fail
        refine (CW.out _).mono ?_
        rintro e w4 ⟨rfl, h4⟩
        go_wp2_with fail
        go_ret
        exact ⟨rfl, below_t5 H3.out h4⟩
      rw [hpr]
      have htx : (⟨(objT q TT).toArray⟩ : ByteArray).data.toList = objT q TT := by simp
      have hfine := goodV_pos_fine hgd
      have hlen6 : (objT q TT).length ≤ 600000 := HR.out hfine (by trivial)
      have hts : ((⟨(objT q TT).toArray⟩ : ByteArray).size : Int) ≤ 600000 := by rw [Lib.size_eq, htx]; omega
      generalize (⟨(objT q TT).toArray⟩ : ByteArray) = tx at htx hts ⊢
      have HTX := hide (show tx.data.toList = objT q TT ∧ fine q TT ∧ (objT q TT).length ≤ 600000 from ⟨htx, hfine, hlen6⟩)
      have CN := hide (rcount_any q TT ka kc ja jc w3 (GIN.out.below H3.out))
      rw [show cntV q TT = (fsize TT : Int) + 1 from count_good hgd] at CN
      have hfs : (fsize TT : Int) < 65536 := by have := (goodV_fine (decide_eq_true hgd)).2; omega
      have hm0 : 0 ≤ m := by rw [HV.out.sum]; omega
      have hm1 : m ≤ 1310720 := by have := HV.out.cnt; omega
      have hSl : (S.size : Int) ≤ 12000021 := by
        have h1 := seqT_len qs HV.out.ok
        have h2 := HV.out.ql
        have h3 : k < 20 := by omega
        rw [Lib.size_eq, HV.out.text]
        simp only [List.length_cons]
        omega
      obtain ⟨c0, c1, c2, c3, c4, c5⟩ := G6.out.below hbz H3.out
      clear hpr htx hfine hlen6 hln hgd HR
      go_wp2_with fail
      refine CN.out.mono ?_
      rintro e w4 ⟨rfl, h4⟩
      have H4 := hide (below_t5 H3.out h4)
      have HW4 := hide (below_t5 HW3.out h4)
      clear h4 CN c0 c1 c2 c3 c4 c5 H3 HW3
      go_upto_if 54 with (fail)
      go_cut [11] from 20 to 76 (fun s11 wc => Hid (wc = w4 ∧ ∃ bv : Nat, s11 = .int .i64 (bv : Int) ∧ bv < 5))
      case first =>
        by_cases hkz : k < zn
        case neg =>
          have hd1 : decide (k < zn) = false := decide_eq_false hkz
          have hd2 : decide ((k : Int) < (zn : Int)) = false := decide_eq_false (by omega)
          first | rw [hd1] | rw [hd2] | trace "NEITHER"
          clear hkz hd1 hd2
          go_wp2_with fail
          go_meet
          exact hide ⟨rfl, 0, rfl, by omega⟩
        case pos =>
          have hd1 : decide (k < zn) = true := decide_eq_true hkz
          have hd2 : decide ((k : Int) < (zn : Int)) = true := decide_eq_true (by omega)
          first | rw [hd1] | rw [hd2] | trace "NEITHER"
          clear hd1 hd2
          have hkz' : (k : Int) < (zn : Int) := by omega
          obtain ⟨zb, zo, rfl, hzb, hzc⟩ : ∃ zb zo, za = some ⟨zb, zo, none⟩ ∧ zb < w.heap.size ∧ w.cell? ⟨zb, zo + k, none⟩ = some (.int .i64 (zs.getD k 0)) := by
            obtain ⟨e1, _, _, hL, _⟩ := HZ.out
            rcases hL with h | ⟨zb, zo, h1, h2, h3⟩
            · rw [h] at e1; simp at e1; omega
            · exact ⟨zb, zo, h1, h2, h3 k (by omega)⟩
          have cz := (H4.out.cell (p := ⟨zb, zo + k, none⟩) hzb).trans hzc
          have hzr : -9223372036854775808 ≤ zs.getD k 0 ∧ zs.getD k 0 ≤ 9223372036854775807 := by
            obtain ⟨e1, _, _, _, h⟩ := HZ.out
            have hk' : k < zs.length := by omega
            rw [List.getD_eq_getElem?_getD, List.getElem?_eq_getElem hk']
            exact h _ (List.getElem_mem hk')
          generalize zs.getD k 0 = z at cz hzr
          obtain ⟨hz0, hz1⟩ := hzr
          clear hzc
          obtain ⟨y, hy, hy0, hy1, bv, hbv, hb5⟩ := blank_of z
          go_wp2_with fail
          go_meet
          exact hide ⟨rfl, bv, rfl, hb5⟩
      case rest =>
        obtain ⟨rfl, bv, rfl, hb5⟩ := hcut.out
        clear hcut
        have hb5' : (bv : Int) < 5 := by omega
        have hb0 : (0 : Int) ≤ (bv : Int) := by omega
        have hbs : bv < (⟨#[9, 10, 12, 13, 32]⟩ : ByteArray).size := hb5
        have hbl : isBl ((⟨#[9, 10, 12, 13, 32]⟩ : ByteArray)[bv]).toNat = true := blk_at bv hbs
        have hal := (Below.refl wc.heap.size wc).alloc (Nat.le_refl _) (.cells #[.int .u8 ((⟨#[9, 10, 12, 13, 32]⟩ : ByteArray)[bv].toNat : Int)] 5)
        have hcv := one_text wc (⟨#[9, 10, 12, 13, 32]⟩ : ByteArray)[bv]
        have H5 := hide (below_t5 H4.out hal)
        have HW5 := hide (below_t5 HW4.out hal)
        obtain ⟨c0, c1, c2, c3, c4, c5⟩ := G6.out.below hbz H5.out
        obtain ⟨g, cap, w6, hr, hown, hb6⟩ := app_row (W := wc.alloc (.cells #[.int .u8 ((⟨#[9, 10, 12, 13, 32]⟩ : ByteArray)[bv].toNat : Int)] 5)) (B := w.heap.size) (l := ents qs) ⟨0, 0, q, TT, ka, kc, ja, jc⟩ (own_below HV.out.own HV.out.below HW5.out) H5.out.size (by simp [HV.out.ql]; omega) (wc.heap.size + 1) (by simp)
        have HR6 := hide hr
        have HO6 := hide hown
        have HB6 := hide (H5.out.trans hb6)
        clear hal hr hown hb6
        go_wp2_with (at_builtin; refine Lib.wpList_append_run _ rfl _ _ _ _ rfl _ _ rfl rfl _ _ HR6.out ?_)
        go_roundw
        case rel =>
          exact ⟨k + 1, _, N, _, _, rfl, rfl, by go_num, hide (HV.out.next GR.out (c := (⟨#[9, 10, 12, 13, 32]⟩ : ByteArray)[bv]) hbl HTX.out GIN.out (by have := HO6.out; rw [show (ents qs).length = qs.length by simp] at this; exact this) HB6.out hfs)⟩
        case measure => simp [intOf]; omega
end Go.Proofs.YtalmcdbdibpgkaaGreatDoor
