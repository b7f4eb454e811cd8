/-
  Joined: P6Ly, P6Wo, P6Gd, P6Rc.
-/
import Derived.Test.YtlnkddmpcicejaaDoorQB
import Derived.Test.YtlnkddmpcicejaaDoorBJ
/-
  What the landed lay answers.
-/
namespace Go.Proofs.YtlnkddmpcicejaaDoor
open Go.RowKit Go.Deep
set_option linter.unusedVariables false

/- what lay answers: an error of Check's; too long; or the text and the places -/
def LyR (B : Nat) (l : List EP) (root : Int) (e : Ending) (w' : World) : Prop :=
  if ckV l root ≠ 0 then e = .returned (.tuple #[.string ⟨#[]⟩, .slice none 0 0, .int .i64 (ckV l root)])
  else match layV l root with
    | none => e = .returned (.tuple #[.string ⟨#[]⟩, .slice none 0 0, .int .i64 2])
    | some (F, zs) => ∃ v, e = .returned (.tuple #[.string ⟨F.toArray⟩, v, .int .i64 0]) ∧ IRow w' B v zs
theorem ck_ok {l : List EP} {root : Int} (h : ckV l root = 0) : (1 ≤ l.length ∧ l.length ≤ 4096) ∧ (1 ≤ root ∧ root ≤ l.length) ∧ ∀ x ∈ l, mayV x = true := by
  unfold ckV at h
  split at h
  · omega
  · rename_i h1
    split at h
    · rename_i h2
      exact ⟨by omega, by omega, fun x hx => List.all_eq_true.1 h2 x hx⟩
    · omega
structure LyI (w : World) (l : List EP) (ea : Option Addr) (ec : Nat) (root : Int) (b b0 off k : Nat) (U : List EP) (F : List UInt8) (zs : List Int) (v : Value) (wr : World) : Prop where
  len : U.length + k = l.length
  rows : ERows w U b0 (off + k * 8)
  sub : ∀ e ∈ U, e ∈ l
  lay : layG k U F zs = layG 0 l hdrT []
  wst : WSt wr w.heap.size b F
  irow : IRow wr w.heap.size v zs
  zl : zs.length = k
  small : F.length ≤ 16777216
  below : Below w.heap.size w wr
  blk : Blk wr w.heap.size (fbox l ea ec root) 24
  zb : ∀ z ∈ zs, 0 ≤ z ∧ z ≤ 16777216
abbrev zwr : Array Value := #[.slice none 0 0, .int .i64 0]
set_option maxRecDepth 8000 in
set_option maxHeartbeats 4000000 in
theorem lay_any (l : List EP) (ea : Option Addr) (ec : Nat) (root : Int) (w : World) (hin : FIn w l ea ec) (hok : ∀ e ∈ l, EOk e) (hg : D2.Glo w) :
    Calls Tryd.prog 14 #[fv l ea ec root] w fun e w' => LyR w.heap.size l root e w' ∧ Below w.heap.size w w' := by
  have hmf : ∀ (fn : Fn) (first cap : Array Value) (w : World), (Instr.makeFunc fn first cap).run Tryd.prog w = .ok (.func fn first cap) w := fun _ _ _ _ => rfl
  have hl1 : (l.length : Int) ≤ 1256584717450 := by have h := hin.1.1.2; omega
  have hl0 : (0 : Int) ≤ (l.length : Int) := by omega
  have hal := (Below.refl w.heap.size w).alloc (Nat.le_refl _) (.cells (fbox l ea ec root) 24)
  have CK := hide (check_any l ea ec root _ (hin.below hal) hok)
  have HB0 := hide hal
  have HK0 := hide (Blk.new w (fbox l ea ec root) 24)
  obtain ⟨b0, off, hea, hrows⟩ := hin.at_
  have HEA := hide hea
  have HRW := hide hrows
  have HOK := hide hok
  have HG := hide hg
  clear hin hea hrows hok hg hal
  by_cases hck : ckV l root = 0
  case neg =>
    have hc : (ckV l root == 0) = false := by rw [beq_eq_false_iff_ne]; exact hck
    have HCK := hide hck
    generalize hR : ckV l root = R at CK hc
    have HR := hide hR
    clear hck hR
    go_enter Tryd.func14, Tryd.ntmps14
    go_wp2_with (go_at_call 19; refine CK.out.mono ?_; rintro e w1 ⟨rfl, h1⟩; have H1 := hide (below_t5 HB0.out h1); clear h1)
    go_ret3
    refine ⟨?_, H1.out⟩
    unfold LyR
    rw [if_pos HCK.out, HR.out]
    rfl
  have hckk := ck_ok hck
  rw [hck] at CK
  have HCK := hide hck
  have HOKK := hide hckk
  have hl4 : (l.length : Int) ≤ 4096 := by omega
  clear hck hckk
  go_enter Tryd.func14, Tryd.ntmps14
  go_wp2_with fail
  refine CK.out.mono ?_
  rintro e w1 ⟨rfl, h1⟩
  have hb1 := below_t5 HB0.out h1
  have hal1 := (Below.refl w1.heap.size w1).alloc (Nat.le_refl _) (.cells zwr 54)
  have hb2 := below_t5 hb1 hal1
  have hW2 : WSt (w1.alloc (.cells zwr 54)) w.heap.size w1.heap.size [] := ⟨⟨.slice none 0 0, [], Blk.new w1 _ _, BRow.nil _ _, fun _ => rfl, by simp⟩, hb1.size, by simp; have := hb1.size; omega⟩
  have hK2 := (HK0.out.below h1).below hal1
  have PUT := hide (put_any w.heap.size w1.heap.size [] ⟨#[37, 80, 68, 70, 45, 49, 46, 55, 10, 37, 226, 227, 207, 211, 10]⟩ _ hW2 (by decide))
  have hbn : w.heap.size < w1.heap.size := (HK0.out.below h1).lt
  have HB2 := hide hb2
  have HK2 := hide hK2
  have HHB := hide hb1
  clear h1 hb1 hal1 hb2 hW2 hK2 CK
  go_wp2_with fail
  refine PUT.out.mono ?_
  rintro e w3 ⟨rfl, hW3, hP3⟩
  have HW3 := hide hW3
  have HB3 := hide (HB2.out.trans hP3.below)
  have hK3 := hP3.blk HK2.out (by omega) (by decide)
  have HK3 := hide hK3
  obtain ⟨⟨s0, s1⟩, _⟩ := hK3.two
  clear hW3 hP3 hK3 PUT
  go_wp2_with fail
  clear s0 s1
  go_loopw [8, 9, 10, 23] (fun v8 _v9 _v10 vi wr => ∃ (k : Nat) (U : List EP) (F : List UInt8) (zs : List Int), vi = .int .i64 k ∧ Hid (LyI w l ea ec root w1.heap.size b0 off k U F zs v8 wr)) (fun _ _ _ vi _ => l.length - (intOf vi).toNat)
  case atStart => exact ⟨0, l, hdrT, [], rfl, hide ⟨by omega, by simpa using HRW.out, fun _ h => h, rfl, by simpa [hdrT] using HW3.out, IRow.nil _ _, rfl, by decide, HB3.out, HK3.out, by simp⟩⟩
  case round =>
    clear HB3 HK3 HW3 HRW HB2 HK2 HHB
    obtain ⟨k, U, F, zs, rfl, HV⟩ := hrel
    have hV := HV.out
    have hk0 : (0 : Int) ≤ (k : Int) := by omega
    obtain ⟨⟨wv8, ys, hblk, hbr, hys, hyl⟩, hwb, hwB⟩ := hV.wst
    obtain ⟨va8, vc8, rfl⟩ := hbr.shape
    obtain ⟨⟨c0, c1⟩, _⟩ := hblk.two
    have hsm : (F.length : Int) ≤ 16777216 := by have := hV.small; omega
    have hF0 : (0 : Int) ≤ (F.length : Int) := by omega
    cases U with
    | nil =>
      have hk' : ¬ (k : Int) < (l.length : Int) := by have := hV.len; simp at this; omega
      have hz4 : zs.length ≤ 4096 := by have := hV.len; have := hV.zl; simp at *; omega
      have TB := hide (putTable_any w.heap.size w1.heap.size F u8 zs wr hV.wst hV.irow hz4 hV.zb (fun w' h => HG.out.below (hV.below.trans h)) (by omega))
      have HIR := hide hV.irow
      have HWr := hide hV.wst
      have HBr := hide hV.below
      have HKr := hide hV.blk
      have HLE := hide hV.lay
      have HZB := hide hV.zb
      obtain ⟨ua, uc, rfl, _, huc, hum⟩ := hV.irow.lst
      clear hV HV hblk hbr hys hyl hwb hwB
      go_wp2_with fail
      refine TB.out.mono ?_
      rintro e w5 ⟨rfl, hW5, hP5⟩
      have HW5 := hide hW5
      have HB5 := hide (HBr.out.trans hP5.below)
      have HI5 := hide (HIR.out.pk HWr.out hP5)
      have hK5 := hP5.blk HKr.out (by omega) (by decide)
      have HK5 := hide hK5
      obtain ⟨⟨s0, s1⟩, _⟩ := hK5.two
      have htl5 : (tabT zs).length ≤ 1000000 := by
        unfold tabT
        have h1 := rows_len6 zs HZB.out
        have h2 : (Lib.itoa ((zs.length : Int) + 1)).length ≤ 21 := Lib.itoa_length_le _ (by omega) (by omega)
        simp only [List.length_append, h1, List.length_cons, List.length_nil]
        omega
      have TR := hide (putTrailer_any w.heap.size w1.heap.size (F ++ tabT zs) ((zs.length : Int) + 1) root (F.length : Int) w5 hW5 (by omega) (by have := HOKK.out; omega) (by omega) (fun w' h => HG.out.below (HB5.out.trans h)) (by rw [List.length_append]; omega))
      clear hW5 hP5 hK5 TB c0 c1
      go_wp2_with fail
      refine TR.out.mono ?_
      rintro e w6 ⟨rfl, hW6, hP6⟩
      have HW6 := hide hW6
      have HB6 := hide (HB5.out.trans hP6.below)
      have HI6 := hide (HI5.out.pk HW5.out hP6)
      obtain ⟨⟨wv6, ys6, hblk6, hbr6, hys6, hyl6⟩, _, _⟩ := id hW6
      obtain ⟨va6, vc6, rfl⟩ := hbr6.shape
      obtain ⟨⟨f0, f1⟩, _⟩ := hblk6.two
      obtain ⟨G, hG⟩ : ∃ G, F ++ tabT zs ++ trlT ((zs.length : Int) + 1) root F.length = G := ⟨_, rfl⟩
      rw [hG] at f1 hys6
      have HGG := hide hG
      have HBR6 := hide hbr6
      have HYS := hide hys6
      have HBK6 := hide hblk6
      clear hW6 hP6 hblk6 hbr6 hys6 hG TR s0 s1
      by_cases hs : G.length ≤ 16777216
      case neg =>
        have hs' : (16777216 : Int) < (G.length : Int) := by omega
        have HS := hide hs
        clear hs
        go_wp2_with fail
        go_ret3
        refine ⟨?_, HB6.out⟩
        unfold LyR
        rw [if_neg (by rw [HCK.out]; simp)]
        unfold layV
        rw [← HLE.out]
        unfold layG
        simp only [HGG.out]
        rw [if_neg HS.out]
        rfl
      have hs' : ¬ (16777216 : Int) < (G.length : Int) := by omega
      have HS := hide hs
      clear hs
      obtain rfl : ys6 = G := HYS.out HS.out
      have hdr : Below w6.heap.size w6 w6.drew := (Below.refl _ _).drew
      have hId : IRow w6.drew w.heap.size (.slice ua zs.length uc) zs := own_below HI6.out HB6.out hdr
      have hbd : BRow w6.drew w.heap.size (.slice va6 ys6.length vc6) ys6 := ownsRow_kept HBR6.out (fun k _ hk => hdr.block k hk)
      obtain ⟨pa, pc, w7, hr, hI7, hik⟩ := app_i (F.length : Int) hId HW6.out.hB (by omega) w6.heap.size rfl
      have hcv0 := BRow.text HBR6.out
      have hcv1 := BRow.text hbd
      have hcv2 : (convert 52 9 (.slice va6 ys6.length vc6)).run Tryd.prog ((w6.alloc (.cells #[.int .i64 (F.length : Int)] 3)).drew) = .ok (.string ⟨ys6.toArray⟩) ((w6.alloc (.cells #[.int .i64 (F.length : Int)] 3)).drew) := BRow.text (w := w6.drew.alloc (.cells #[.int .i64 (F.length : Int)] 3)) (World.ownsRow.alloc hbd _)
      have hcv3 := BRow.text (hbd.ik hik)
      have hbk7 := hik.blk (HBK6.out.below hdr) (by decide)
      obtain ⟨⟨f0', f1'⟩, _⟩ := hbk7.two
      have HR := hide hr
      have HI7 := hide hI7
      have HB7 := hide (show Below w.heap.size w w7 from (below_t5 HB6.out hdr).trans hik.below)
      have hblt : w1.heap.size < w6.heap.size := HW6.out.lt
      clear hdr hId hbd hr hI7 hik hbk7
      go_wp2_with fail
      rename_i q0
      have HA := hide q0
      clear q0
      go_region_law (refine step_append_run _ (by rfl) _ _ _ _ rfl _ _ (by rfl) (by rfl) _ _ HR.out ?_)
      all_goals
        refine HA.out _ _ ?_
        go_wp2_with fail
        go_ret3
        refine ⟨?_, HB7.out⟩
        unfold LyR
        rw [if_neg (by rw [HCK.out]; simp)]
        unfold layV
        rw [← HLE.out]
        unfold layG
        simp only [HGG.out]
        rw [if_pos HS.out]
        exact ⟨_, rfl, HI7.out⟩
    | cons x U =>
      obtain ⟨⟨⟨ka, kc, ia, ic, g6, gin⟩, gs, gd⟩, grest⟩ := hV.rows
      obtain rfl | ⟨rfl, hbz⟩ := HEA.out
      · have := hV.len; simp at this
      have hlt : (k : Int) < (l.length : Int) := by have := hV.len; simp at this; omega
      have hal := (Below.refl wr.heap.size wr).alloc (Nat.le_refl _) (.cells (ebox x ka kc ia ic) 41)
      obtain ⟨d0, d1, d2, d3, d4, d5⟩ := g6.below hbz hV.below
      have d6 := (hV.below.cell (p := ⟨b0, off + k * 8 + 6, none⟩) hbz).trans gs
      have d7 := (hV.below.cell (p := ⟨b0, off + k * 8 + 7, none⟩) hbz).trans gd
      have hbwr : w1.heap.size < wr.heap.size := hblk.lt
      have hW1 := hV.wst.below hal
      have hI1 : IRow (wr.alloc (.cells (ebox x ka kc ia ic) 41)) w.heap.size u8 zs := own_below hV.irow hV.below hal
      obtain ⟨pa, pc, w2, hr, hI2, hik⟩ := app_i (F.length : Int) hI1 hW1.hB (by have := hV.zl; have := hV.len; omega) (wr.heap.size + 1) (by simp)
      have hW2 := hW1.ik hik
      have hX2 := hik.blk (Blk.new wr (ebox x ka kc ia ic) 41) (by decide)
      have hK2 := hik.blk (hV.blk.below hal) (by decide)
      have hB2 : Below w.heap.size w w2 := (below_t5 hV.below hal).trans hik.below
      have CE := putEntry_any w.heap.size w1.heap.size F (k + 1) x ka kc ia ic w2 hW2 (gin.below hB2) (HOK.out x (hV.sub x (by simp))) (HG.out.below hB2) (by omega) (by omega) (HOKK.out.2.2 x (hV.sub x (by simp)))
      rw [show ((k + 1 : Nat) : Int) = (k : Int) + 1 by omega] at CE
      have CE := hide CE
      have HR := hide hr
      have HI2 := hide hI2
      have HW2 := hide hW2
      have HLE := hide hV.lay
      have HSUB := hide hV.sub
      have HLEN := hide hV.len
      have HZL := hide hV.zl
      have HZB := hide hV.zb
      have HK2 := hide hK2
      have HB2 := hide hB2
      have HGR := hide grest
      obtain ⟨⟨x0, x1, x2, x3, x4, x5, x6, x7⟩, _⟩ := hX2.eight
      clear hV hblk hbr hys hyl hwb hwB g6 gin gs gd grest hal hW1 hI1 hr hI2 hik hW2 hX2 hK2 hB2
      go_wp2_with (at_builtin; refine Lib.wpList_append_run _ rfl _ _ _ _ rfl _ _ rfl rfl _ _ HR.out ?_)
      refine CE.out.mono ?_
      rintro e w4 ⟨hpe, hpk⟩
      have HI4 := hide (HI2.out.pk HW2.out hpk)
      have HB4 := hide (HB2.out.trans hpk.below)
      have HK4 := hide (hpk.blk HK2.out (by omega) (by decide))
      by_cases hol : (objT (bdP x) (bdT x)).length ≤ 1048576
      case neg =>
        rw [if_neg hol] at hpe
        subst hpe
        have HOL := hide hol
        clear hol hpk
        go_wp2_with fail
        go_ret3
        refine ⟨?_, HB4.out⟩
        unfold LyR
        rw [if_neg (by rw [HCK.out]; simp)]
        unfold layV
        rw [← HLE.out]
        unfold layG
        rw [if_neg (fun h => HOL.out h.1)]
        rfl
      rw [if_pos hol] at hpe
      obtain ⟨rfl, hW4⟩ := hpe
      obtain ⟨⟨wv4, ys4, hblk4, hbr4, _, _⟩, _, _⟩ := id hW4
      obtain ⟨⟨f0, f1⟩, _⟩ := hblk4.two
      obtain ⟨n, hn⟩ : ∃ n, (F ++ entT (k + 1) x).length = n := ⟨_, rfl⟩
      rw [hn] at f1
      have HW4 := hide hW4
      have HN := hide hn
      have HOL := hide hol
      clear hW4 hn hol hpk hblk4 hbr4
      by_cases hs : n ≤ 16777216
      case neg =>
        have hs' : (16777216 : Int) < (n : Int) := by omega
        have HS := hide hs
        clear hs
        go_wp2_with fail
        go_ret3
        refine ⟨?_, HB4.out⟩
        unfold LyR
        rw [if_neg (by rw [HCK.out]; simp)]
        unfold layV
        rw [← HLE.out]
        unfold layG
        rw [if_neg (fun h => HS.out (by rw [← HN.out]; exact h.2))]
        rfl
      have hs' : ¬ (16777216 : Int) < (n : Int) := by omega
      have HS := hide hs
      clear hs
      go_wp2_with fail
      go_roundw
      case rel =>
        refine ⟨k + 1, U, F ++ entT (k + 1) x, zs ++ [(F.length : Int)], by go_num, hide ⟨by have := HLEN.out; simp at this; omega, by have := HGR.out; rw [show off + (k + 1) * 8 = off + k * 8 + 8 by omega]; exact this, fun e he => HSUB.out e (by simp [he]), ?_, HW4.out, ?_, by simp [HZL.out], by rw [HN.out]; exact HS.out, HB4.out, HK4.out, ?_⟩⟩
        · rw [← HLE.out]
          conv => rhs; unfold layG
          rw [if_pos ⟨HOL.out, by rw [HN.out]; exact HS.out⟩]
        · exact HI4.out
        · intro z hz
          rcases List.mem_append.1 hz with h | h
          · exact HZB.out z h
          · simp at h; omega
      case measure => simp [intOf]; omega
end Go.Proofs.YtlnkddmpcicejaaDoor
/-
  What the landed Write and Offsets answer.
-/
namespace Go.Proofs.YtlnkddmpcicejaaDoor
open Go.RowKit Go.Deep
set_option linter.unusedVariables false

/- the error's number, the text, the places: in plain words -/
def lyE (l : List EP) (root : Int) : Int := if ckV l root ≠ 0 then ckV l root else if (layV l root).isSome then 0 else 2
def lyF (l : List EP) (root : Int) : List UInt8 := if ckV l root ≠ 0 then [] else match layV l root with
  | none => []
  | some (F, _) => F
def lyZ (l : List EP) (root : Int) : List Int := if ckV l root ≠ 0 then [] else match layV l root with
  | none => []
  | some (_, zs) => zs
theorem IRow.mono {w : World} {B B' : Nat} {v : Value} {zs : List Int} (h : IRow w B v zs) (hB : B' ≤ B) : IRow w B' v zs := by
  obtain ⟨h1, h2 | ⟨g, cap, cur, hv, hg, hh, hr⟩⟩ := h
  · exact ⟨h1, Or.inl h2⟩
  · exact ⟨h1, Or.inr ⟨g, cap, cur, hv, Nat.le_trans hB hg, hh, hr⟩⟩
theorem LyR.all {B : Nat} {l : List EP} {root : Int} {e : Ending} {w' : World} (h : LyR B l root e w') :
    ∃ v, e = .returned (.tuple #[.string ⟨(lyF l root).toArray⟩, v, .int .i64 (lyE l root)]) ∧ IRow w' B v (lyZ l root) := by
  unfold LyR at h
  unfold lyF lyE lyZ
  by_cases hc : ckV l root ≠ 0
  · rw [if_pos hc] at h
    rw [if_pos hc, if_pos hc, if_pos hc]
    exact ⟨_, h, IRow.nil _ _⟩
  · rw [if_neg hc] at h
    rw [if_neg hc, if_neg hc, if_neg hc]
    cases hl : layV l root with
    | none => rw [hl] at h; exact ⟨_, h, IRow.nil _ _⟩
    | some q => obtain ⟨F, zs⟩ := q; rw [hl] at h; exact h
set_option maxRecDepth 8000 in
set_option maxHeartbeats 1000000 in
theorem write_any (l : List EP) (ea : Option Addr) (ec : Nat) (root : Int) (w : World) (hin : FIn w l ea ec) (hok : ∀ e ∈ l, EOk e) (hg : D2.Glo w) :
    Calls Tryd.prog 6 #[fv l ea ec root] w fun e w' => e = .returned (.tuple #[.string ⟨(lyF l root).toArray⟩, .int .i64 (lyE l root)]) ∧ Below w.heap.size w w' := by
  have hal := (Below.refl w.heap.size w).alloc (Nat.le_refl _) (.cells (fbox l ea ec root) 24)
  have CL := hide (lay_any l ea ec root _ (hin.below hal) hok (hg.below hal))
  have HB0 := hide hal
  clear hin hok hg hal
  go_enter Tryd.func6, Tryd.ntmps6
  go_wp2_with fail
  refine CL.out.mono ?_
  rintro e w1 ⟨h0, h1⟩
  obtain ⟨v, rfl, hv⟩ := h0.all
  have H1 := hide (below_t5 HB0.out h1)
  clear h0 h1 hv
  go_wp2_with fail
  go_ret2
  exact ⟨rfl, H1.out⟩
set_option maxRecDepth 8000 in
set_option maxHeartbeats 1000000 in
theorem offsets_any (l : List EP) (ea : Option Addr) (ec : Nat) (root : Int) (w : World) (hin : FIn w l ea ec) (hok : ∀ e ∈ l, EOk e) (hg : D2.Glo w) :
    Calls Tryd.prog 8 #[fv l ea ec root] w fun e w' => (∃ v, e = .returned (.tuple #[v, .int .i64 (lyE l root)]) ∧ IRow w' w.heap.size v (lyZ l root)) ∧ Below w.heap.size w w' := by
  have hal := (Below.refl w.heap.size w).alloc (Nat.le_refl _) (.cells (fbox l ea ec root) 24)
  have CL := hide (lay_any l ea ec root _ (hin.below hal) hok (hg.below hal))
  have HB0 := hide hal
  clear hin hok hg hal
  go_enter Tryd.func8, Tryd.ntmps8
  go_wp2_with fail
  refine CL.out.mono ?_
  rintro e w1 ⟨h0, h1⟩
  obtain ⟨v, rfl, hv⟩ := h0.all
  have H1 := hide (below_t5 HB0.out h1)
  have HV := hide hv
  clear h0 h1 hv
  go_wp2_with fail
  go_ret2
  exact ⟨⟨v, rfl, HV.out.mono (by simp)⟩, H1.out⟩
end Go.Proofs.YtlnkddmpcicejaaDoor
/-
  A stream's dictionary with its length is good just where it is without it, has no such key and has room for one object more.
-/
namespace Go.Proofs.YtlnkddmpcicejaaDoor
open Go.RowKit Go.Deep
set_option linter.unusedVariables false

theorem keysB_snoc (s : ByteArray) : ∀ (ks : List ByteArray) (seen : List (List UInt8)), keysB seen (ks ++ [s]) = (keysB seen ks && nameB s.data.toList && decide (s.data.toList ∉ seen ++ ks.map fun k => k.data.toList))
  | [], seen => by simp [keysB]
  | k :: ks, seen => by
    rw [List.cons_append, keysB, keysB, keysB_snoc s ks]
    simp only [List.map_cons, List.append_assoc, List.singleton_append, Bool.and_assoc]
theorem goodF_snoc (q : Pay) (a : Int) : ∀ (T : BT Pay) (n : Int), 0 ≤ n → n ≤ 65536 → goodF (snocF T q) a n = if goodF T a n < 0 then -1 else goodV q .nil a (goodF T a n)
  | .nil, n, h0, h1 => by
    have hle := goodV_le q .nil a n h0 h1
    rw [snocF, goodF_node, show goodF .nil a n = n from rfl, if_neg (show ¬ n < 0 by omega)]
    show (if goodV q .nil a n < 0 then -1 else goodV q .nil a n) = _
    split <;> omega
  | .node b o p T N, n, h0, h1 => by
    have hle := goodV_le p T a n h0 h1
    rw [snocF, goodF_node, goodF_node]
    by_cases h : goodV p T a n < 0
    · rw [if_pos h, if_pos h, if_pos (by omega)]
    · rw [if_neg h, if_neg h]
      exact goodF_snoc q a N _ (by omega) hle.2
theorem flat7 (p : Pay) (n : Nat) (h7 : p.kind = 7) : flatV p n = (!(p.flag || p.num != 0 || p.text.size != 0) && (decide (p.keys.length = n) && keysB [] p.keys)) := by
  unfold flatV
  rw [h7]
  simp
theorem lenS_name : nameB [76, 101, 110, 103, 116, 104] = true := by decide
theorem good_len (p : Pay) (T : BT Pay) (n : Nat) (h7 : p.kind = 7) (hn : n ≤ 200000) : decide (0 < goodV (addK p) (snocF T (lenP n)) 0 0) = (decide (0 ≤ goodV p T 0 0) && decide (goodV p T 0 0 < 65536) && decide (lenS.data.toList ∉ p.keys.map fun k => k.data.toList)) := by
  have hf : flatV (addK p) (flen (snocF T (lenP n))) = (flatV p (flen T) && decide (lenS.data.toList ∉ p.keys.map fun k => k.data.toList)) := by
    rw [flat7 (addK p) _ h7, flat7 p _ h7, snocF_len]
    simp only [keysB_snoc, lenS_name, List.length_append, List.length_cons, List.length_nil, List.nil_append, Bool.true_and, Nat.zero_add, Nat.add_right_cancel_iff, Bool.and_assoc]
  have hc : cont p = true := by unfold cont; rw [h7]; rfl
  have hc' : cont (addK p) = true := hc
  have e1 : goodV p T 0 0 = if flatV p (flen T) = false then -1 else goodF T 1 1 := by
    unfold goodV gV
    rw [if_pos hc]
    simp
  have e2 : goodV (addK p) (snocF T (lenP n)) 0 0 = if flatV (addK p) (flen (snocF T (lenP n))) = false then -1 else goodF (snocF T (lenP n)) 1 1 := by
    unfold goodV gV
    rw [if_pos hc']
    simp
  have hle := goodF_le T 1 1 (by omega) (by omega)
  have e3 : ∀ m : Int, goodV (lenP n) .nil 1 m = if 65536 < m + 1 then -1 else m + 1 := by
    intro m
    have hfl : flatV (lenP n) 0 = true := by
      show flatV ⟨2, false, (n : Int), ⟨#[]⟩, []⟩ 0 = true
      rw [flat2_6]
      simp
      omega
    unfold goodV gV
    rw [show flen (.nil : BT Pay) = 0 from rfl, hfl]
    simp [cont, goodF]
  have hge : 0 ≤ goodF T 1 1 → 1 + (flen T : Int) ≤ goodF T 1 1 := goodF_ge T 1 1 (by omega)
  rw [e1, e2, hf, goodF_snoc _ _ _ _ (by omega) (by omega), e3]
  generalize goodF T 1 1 = g at hle hge
  cases flatV p (flen T)
  · simp
  · by_cases hk : lenS.data.toList ∈ p.keys.map fun k => k.data.toList
    · rw [decide_eq_false (not_not_intro hk)]
      simp
    · rw [decide_eq_true hk, Bool.and_true, Bool.and_true, if_neg (by decide : ¬ true = false), if_neg (by decide : ¬ true = false), Bool.eq_iff_iff, Bool.and_eq_true, decide_eq_true_eq, decide_eq_true_eq, decide_eq_true_eq]
      by_cases h1 : g < 0
      · rw [if_pos h1]
        omega
      · rw [if_neg h1]
        by_cases h2 : 65536 < g + 1
        · rw [if_pos h2]
          omega
        · rw [if_neg h2]
          omega
end Go.Proofs.YtlnkddmpcicejaaDoor
/-
  The reference's has and Check, walked.
-/
namespace Go.Proofs.YtlnkddmpcicejaaDoor
open Go.RowKit Go.Deep
set_option linter.unusedVariables false

theorem beq_bytes (a b : ByteArray) : (a.toList == b.toList) = decide (a.data.toList = b.data.toList) := by
  rw [Lib.toList_data, Lib.toList_data]
  by_cases h : a.data.toList = b.data.toList
  · rw [h]; simp
  · rw [decide_eq_false h, beq_eq_false_iff_ne]; exact h
def hasV (p : Pay) (x : ByteArray) : Bool := p.keys.any fun k => k.toList == x.toList
set_option maxRecDepth 8000 in
set_option maxHeartbeats 2000000 in
theorem rhas_any (p : Pay) (T : BT Pay) (ka : Option Addr) (kc : Nat) (ia : Option Addr) (ic : Nat) (x : ByteArray) (w : World) (hin : OIn w p T ka kc ia ic) :
    Calls Tryd.prog 17 #[ov p ka kc ia (flen T) ic, .string x] w fun e w' => e = .returned (.bool (hasV p x)) ∧ Below w.heap.size w w' := by
  have HI := hide hin
  have hl3 : (p.keys.length : Int) ≤ 9223372036854775807 := by have h := hin.2.1.2.1; have h' := hin.2.1.2.2; omega
  have HB0 := hide ((Below.refl w.heap.size w).alloc (Nat.le_refl _) (.cells (obox p ka kc ia (flen T) ic) 39))
  have HK0 := hide (Blk.new w (obox p ka kc ia (flen T) ic) 39)
  obtain ⟨R, hR⟩ : ∃ R, hasV p x = R := ⟨_, rfl⟩
  rw [hR]
  have HG := hide hR
  clear hin hR
  go_enter Tryd.func17, Tryd.ntmps17
  go_wp2_with fail
  go_loopw [5] (fun vi wr => ∃ i : Nat, vi = .int .i64 i ∧ Hid (i ≤ p.keys.length ∧ hasV p x = ((p.keys.drop i).any fun k => k.toList == x.toList) ∧ Below w.heap.size w wr ∧ Blk wr w.heap.size (obox p ka kc ia (flen T) ic) 39)) (fun vi _ => p.keys.length - (intOf vi).toNat)
  case atStart => exact ⟨0, rfl, hide ⟨Nat.zero_le _, rfl, HB0.out, HK0.out⟩⟩
  case round =>
    clear HB0 HK0
    obtain ⟨i, rfl, HV⟩ := hrel
    obtain ⟨hi, hk, hbel, hk0⟩ := HV.out
    clear HV
    have HB := hide hbel
    have HK0 := hide hk0
    have HKK := hide hk
    have s4 : wr.cell? ⟨w.heap.size, 4, none⟩ = some (.slice ka p.keys.length kc) := hk0.cell 4
    have hi0 : (0 : Int) ≤ (i : Int) := by omega
    by_cases hlt : i < p.keys.length
    case neg =>
      have hlt' : ¬ (i : Int) < (p.keys.length : Int) := by omega
      obtain rfl : R = false := by rw [← HG.out, hk, List.drop_of_length_le (by omega)]; rfl
      clear hk hbel hi hk0
      go_wp2_with fail
      go_ret
      exact ⟨rfl, HB.out⟩
    case pos =>
      have hlt' : (i : Int) < (p.keys.length : Int) := by omega
      obtain ⟨b, off, rfl, hb, hc⟩ := HI.out.2.1.1.get5 hlt
      have c1 := (hbel.cell (p := ⟨b, off + i, none⟩) hb).trans hc
      have st : ((p.keys.drop i).any fun k => k.toList == x.toList) = (((p.keys.getD i ByteArray.empty).toList == x.toList) || ((p.keys.drop (i + 1)).any fun k => k.toList == x.toList)) := by
        rw [List.drop_eq_getElem_cons hlt, List.any_cons, List.getD_eq_getElem?_getD, List.getElem?_eq_getElem hlt]
        rfl
      generalize p.keys.getD i ByteArray.empty = y at c1 st
      cases hq : (y.toList == x.toList)
      · rw [hq] at st
        have ST := hide st
        clear hc hbel hi hk0 hk st
        go_wp2_with fail
        go_roundw
        case rel => exact ⟨i + 1, by go_num, hide ⟨by omega, by rw [HKK.out, ST.out]; rfl, HB.out, HK0.out⟩⟩
        case measure => simp [intOf]; omega
      · rw [hq] at st
        obtain rfl : R = true := by rw [← HG.out, hk, st]; rfl
        clear hc hbel hi hk0 hk st
        go_wp2_with fail
        go_ret
        exact ⟨rfl, HB.out⟩
def rmayV (x : EP) : Bool := decide (0 ≤ goodV x.p x.T 0 0) && (if x.st then (x.p.kind == 7) && !hasV x.p lenS && decide (goodV x.p x.T 0 0 < 65536) else x.da.toList == [])
theorem has_eq (p : Pay) (x : ByteArray) : hasV p x = decide (x.data.toList ∈ p.keys.map fun k => k.data.toList) := by
  unfold hasV
  rw [Bool.eq_iff_iff, List.any_eq_true, decide_eq_true_eq, List.mem_map]
  constructor
  · rintro ⟨k, hk, he⟩
    rw [beq_bytes, decide_eq_true_eq] at he
    exact ⟨k, hk, he⟩
  · rintro ⟨k, hk, he⟩
    exact ⟨k, hk, by rw [beq_bytes, decide_eq_true_eq]; exact he⟩
theorem good_ne (p : Pay) (T : BT Pay) : goodV p T 0 0 ≠ 0 := by
  unfold goodV gV
  split
  · omega
  · split
    · split
      · omega
      · intro h
        have := goodF_ge T (0 + 1) (0 + 1) (by omega) (by omega)
        omega
    · intro h
      have := goodF_ge T 0 (0 + 1) (by omega) (by omega)
      omega
theorem may_eq (x : EP) (h : x.da.size ≤ 200000) : rmayV x = mayV x := by
  unfold rmayV mayV
  have hn := good_ne x.p x.T
  cases hs : x.st
  · rw [if_neg (by simp), if_neg (by simp), Bool.and_comm]
    congr 1
    rw [decide_eq_decide]
    omega
  · rw [if_pos rfl, if_pos rfl]
    by_cases h7 : x.p.kind = 7
    · rw [good_len x.p x.T x.da.size h7 h, has_eq, h7]
      simp only [beq_self_eq_true, Bool.true_and]
      rw [show (!decide (lenS.data.toList ∈ x.p.keys.map fun k => k.data.toList)) = decide (lenS.data.toList ∉ x.p.keys.map fun k => k.data.toList) from (decide_not ..).symm]
      rw [Bool.and_comm (decide (lenS.data.toList ∉ _)), Bool.and_assoc]
    · rw [beq_eq_false_iff_ne.2 h7]
      simp
set_option maxRecDepth 8000 in
set_option maxHeartbeats 4000000 in
theorem rcheck_any (l : List EP) (ea : Option Addr) (ec : Nat) (root : Int) (w : World) (hin : FIn w l ea ec) (hok : ∀ e ∈ l, e.da.size ≤ 200000) :
    Calls Tryd.prog 9 #[fv l ea ec root] w fun e w' => e = .returned (.int .i64 (ckV l root)) ∧ Below w.heap.size w w' := by
  have hl1 : (l.length : Int) ≤ 1256584717450 := by have h := hin.1.1.2; omega
  have hl0 : (0 : Int) ≤ (l.length : Int) := by omega
  have HB0 := hide ((Below.refl w.heap.size w).alloc (Nat.le_refl _) (.cells (fbox l ea ec root) 24))
  have HK0 := hide (Blk.new w (fbox l ea ec root) 24)
  obtain ⟨b, off, hea, hrows⟩ := hin.at_
  have HEA := hide hea
  have HRW := hide hrows
  have HOK := hide hok
  clear hin hea hrows hok
  unfold ckV
  by_cases hbad : l.length < 1 ∨ 4096 < l.length ∨ root < 1 ∨ (l.length : Int) < root
  · rw [if_pos hbad]
    have hbi : (l.length : Int) < 1 ∨ (4096 : Int) < (l.length : Int) ∨ root < 1 ∨ (l.length : Int) < root := by omega
    clear hbad
    by_cases h1 : (l.length : Int) < 1
    · go_enter Tryd.func9, Tryd.ntmps9
      go_wp2_with fail
      go_ret
      exact ⟨rfl, HB0.out⟩
    by_cases h2 : (4096 : Int) < (l.length : Int)
    · go_enter Tryd.func9, Tryd.ntmps9
      go_wp2_with fail
      go_ret
      exact ⟨rfl, HB0.out⟩
    by_cases h3 : root < 1
    · go_enter Tryd.func9, Tryd.ntmps9
      go_wp2_with fail
      go_ret
      exact ⟨rfl, HB0.out⟩
    have h4 : (l.length : Int) < root := by omega
    clear hbi
    go_enter Tryd.func9, Tryd.ntmps9
    go_wp2_with fail
    go_ret
    exact ⟨rfl, HB0.out⟩
  · rw [if_neg hbad]
    have h1 : ¬ (l.length : Int) < 1 := by omega
    have h2 : ¬ (4096 : Int) < (l.length : Int) := by omega
    have h3 : ¬ root < 1 := by omega
    have h4 : ¬ (l.length : Int) < root := by omega
    clear hbad
    obtain ⟨R, hR⟩ : ∃ R : Int, (if l.all mayV = true then (0 : Int) else 50) = R := ⟨_, rfl⟩
    rw [hR]
    have HRR := hide hR
    clear hR
    go_enter Tryd.func9, Tryd.ntmps9
    go_wp2_with fail
    go_loopw [3, 4, 5] (fun vi _v4 _v5 wr => ∃ (k : Nat) (U : List EP), vi = .int .i64 k ∧ Hid (U.length + k = l.length ∧ ERows w U b (off + k * 8) ∧ (∀ e ∈ U, e ∈ l) ∧ l.all mayV = U.all mayV ∧ Below w.heap.size w wr ∧ Blk wr w.heap.size (fbox l ea ec root) 24)) (fun vi _ _ _ => l.length - (intOf vi).toNat)
    case atStart => exact ⟨0, l, rfl, hide ⟨by omega, by simpa using HRW.out, fun _ h => h, rfl, HB0.out, HK0.out⟩⟩
    case round =>
      clear HB0 HRW HK0
      obtain ⟨k, U, rfl, HV⟩ := hrel
      obtain ⟨hk, hrow, hsub, hall, hbel, hblk⟩ := HV.out
      have HB := hide hbel
      have HK := hide hblk
      obtain ⟨⟨s0, s1⟩, _⟩ := hblk.two
      have hk0 : (0 : Int) ≤ (k : Int) := by omega
      cases U with
      | nil =>
        have hk' : ¬ (k : Int) < (l.length : Int) := by simp at hk; omega
        have ha : R = 0 := by rw [← HRR.out, if_pos (show l.all mayV = true from hall)]
        have HA := hide ha
        clear HV hk hrow hsub hall hbel ha hblk
        go_wp2_with fail
        go_ret
        exact ⟨by rw [HA.out]; rfl, HB.out⟩
      | cons x U =>
        obtain ⟨⟨⟨ka, kc, ia, ic, g6, gin⟩, gs, gd⟩, grest⟩ := hrow
        obtain rfl | ⟨rfl, hbz⟩ := HEA.out
        · simp at hk
        have hlt : (k : Int) < (l.length : Int) := by simp at hk; omega
        have hal := (Below.refl wr.heap.size wr).alloc (Nat.le_refl _) (.cells (ebox x ka kc ia ic) 41)
        have hmx := may_eq x (HOK.out x (hsub x (by simp)))
        have CC := hide (rcount_any x.p x.T ka kc ia ic _ ((gin.below hbel).below hal))
        have CH0 := hide (fun w' h => rhas_any x.p x.T ka kc ia ic lenS w' (((gin.below hbel).below hal).below h))
        have HAL := hide hal
        obtain ⟨c0, c1, c2, c3, c4, c5⟩ := g6.below hbz hbel
        have c6 := (hbel.cell (p := ⟨b, off + k * 8 + 6, none⟩) hbz).trans gs
        have c7 := (hbel.cell (p := ⟨b, off + k * 8 + 7, none⟩) hbz).trans gd
        have HGR := hide grest
        have HKK := hide (show U.length + (k + 1) = l.length ∧ (∀ e ∈ U, e ∈ l) from ⟨by simp at hk; omega, fun e he => hsub e (by simp [he])⟩)
        rw [List.all_cons] at hall
        have HA : Hid (rmayV x = false → R = 50) := hide (fun h => by rw [← HRR.out, hall, ← hmx, h, Bool.false_and, if_neg (by simp)])
        have HALL : Hid (rmayV x = true → l.all mayV = U.all mayV) := hide (fun h => by rw [hall, ← hmx, h, Bool.true_and])
        clear HV hk hsub hbel g6 gin gs gd grest hal hall hmx hblk
        have hle := goodV_le x.p x.T 0 0 (by omega) (by omega)
        unfold cntV at CC
        unfold rmayV at HA HALL
        generalize goodV x.p x.T 0 0 = N at CC HA HALL hle
        obtain ⟨⟨kd, fl, nm, tx, ks⟩, T, st, da⟩ := x
        dsimp only at CC CH0 HA HALL c0 c1 c2 c3 c4 c5 c6 c7 HAL
        go_wp2_with fail
        refine CC.out.mono ?_
        rintro e w1 ⟨rfl, h1⟩
        have hX1 := (Blk.new wr (ebox ⟨⟨kd, fl, nm, tx, ks⟩, T, st, da⟩ ka kc ia ic) 41).below h1
        obtain ⟨⟨x0, x1, x2, x3, x4, x5, x6, x7⟩, _⟩ := hX1.eight
        have H1 := hide (below_t5 (below_t5 HB.out HAL.out) h1)
        have HK1 := hide ((HK.out.below HAL.out).below h1)
        have CH := hide (CH0.out w1 h1)
        clear hX1 h1 CC CH0
        by_cases hN : N < 0
        case pos =>
          have hN' : ¬ 0 ≤ N := by omega
          have HQ := hide (HA.out (by simp [hN']))
          clear HA HALL
          go_wp2_with fail
          go_ret
          exact ⟨by rw [HQ.out]; rfl, H1.out⟩
        have hN' : 0 ≤ N := by omega
        cases st
        case false =>
          cases e1 : (da.toList == ([] : List UInt8))
          case false =>
            have HQ := hide (HA.out (by rw [e1]; simp))
            clear HA HALL
            go_wp2_with fail
            go_ret
            exact ⟨by rw [HQ.out]; rfl, H1.out⟩
          case true =>
            have HQ := hide (HALL.out (by rw [e1]; simp [hN']))
            clear HA HALL
            go_wp2_with fail
            go_roundw
            case rel => exact ⟨k + 1, U, by go_num, hide ⟨HKK.out.1, by have := HGR.out; rw [show off + (k + 1) * 8 = off + k * 8 + 8 by omega]; exact this, HKK.out.2, HQ.out, H1.out, HK1.out⟩⟩
            case measure => simp [intOf]; omega
        by_cases e1 : kd = 7
        case neg =>
          have HQ := hide (HA.out (by simp [e1]))
          clear HA HALL
          go_wp2_with fail
          go_ret
          exact ⟨by rw [HQ.out]; rfl, H1.out⟩
        subst e1
        cases e2 : hasV ⟨7, fl, nm, tx, ks⟩ lenS
        case true =>
          rw [e2] at CH
          have HQ := hide (HA.out (by rw [e2]; simp))
          clear HA HALL
          go_wp2_with (go_at_call 17; refine CH.out.mono ?_; rintro e w2 ⟨rfl, h2⟩; have HKz := hide (HK1.out.below h2); have H2 := hide (below_t5 H1.out h2); clear h2)
          go_ret
          exact ⟨by rw [HQ.out]; rfl, H2.out⟩
        rw [e2] at CH
        by_cases e3 : N < 65536
        case neg =>
          have e3' : 65535 ≤ N - 1 := by omega
          have HQ := hide (HA.out (by simp [e3]))
          clear HA HALL
          go_wp2_with (go_at_call 17; refine CH.out.mono ?_; rintro e w2 ⟨rfl, h2⟩; have HKz := hide (HK1.out.below h2); have H2 := hide (below_t5 H1.out h2); clear h2)
          go_ret
          exact ⟨by rw [HQ.out]; rfl, H2.out⟩
        have e3' : ¬ 65535 ≤ N - 1 := by omega
        have HQ := hide (HALL.out (by rw [e2]; simp [e3, hN']))
        clear HA HALL
        go_wp2_with (go_at_call 17; refine CH.out.mono ?_; rintro e w2 ⟨rfl, h2⟩; have HKz := hide (HK1.out.below h2); have H2 := hide (below_t5 H1.out h2); clear h2)
        go_roundw
        case rel => exact ⟨k + 1, U, by go_num, hide ⟨HKK.out.1, by have := HGR.out; rw [show off + (k + 1) * 8 = off + k * 8 + 8 by omega]; exact this, HKK.out.2, HQ.out, H2.out, HKz.out⟩⟩
        case measure => simp [intOf]; omega
end Go.Proofs.YtlnkddmpcicejaaDoor
