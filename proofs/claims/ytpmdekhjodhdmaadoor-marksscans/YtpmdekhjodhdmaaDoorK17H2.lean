/-
  The walk of opening of a tag's reader.
-/
import Derived.Test.YtpmdekhjodhdmaaDoorK17H
import Derived.Lib.AppendZeros
namespace Go.Proofs.YtpmdekhjodhdmaaDoor.K17
open Go.RowKit Go.Proofs.YtpmdekhjodhdmaaDoor
open Go.Lib
set_option linter.unusedVariables false
set_option linter.unusedSimpArgs false
set_option maxRecDepth 8000

/- the attributes grow by one -/
theorem OS.app {b : Nat} {w : World} {tb : Nat} {x : ByteArray} {v : Value} {ps : List At} {cur : World} {l : List UInt8} (h : OS b w tb x v ps cur l) (hlt : b < w.heap.size) (hgl : lays145_ren.g 1 < w.heap.size) (hl : ps.length ≤ 1000000) (y t : List UInt8) :
    ∃ a' n' c' w2, (Builtin.append_ #[43, 43] 43 #[v, .slice (some ⟨cur.heap.size, 0, none⟩) 1 1]).run Tryd.prog (cur.alloc (.cells #[.string ⟨y.toArray⟩, .string ⟨t.toArray⟩] 47)) = .ok (.slice a' n' c') w2 ∧ w2.cell? ⟨tb, 3, none⟩ = some v ∧ w2.frozen? ⟨tb, 3, none⟩ = false ∧ OS b w tb x (.slice a' n' c') (ps ++ [(y, t)]) (w2.setCell ⟨tb, 3, none⟩ (.slice a' n' c')) l := by
  obtain ⟨v', w2, hr, hrow, hbel, hkc⟩ := app_at (y, t) cur.heap.size h.rw' h.bu.size hl rfl
  have hra : RA w2 b l := hkc _ _ _ _ h.ra (by decide)
  have hz : Blk w2 w.heap.size zt 45 := hkc _ _ _ _ h.z (by decide)
  have ht : Blk w2 tb #[.int .i64 0, .string x, .string ⟨#[]⟩, v, .int .i64 0] 45 := hkc _ _ _ _ h.t (by decide)
  have hbu : But b w w2 := h.bu.trans' hbel
  have hmx : MX w2 := by
    obtain ⟨m, hm⟩ := h.mx
    refine ⟨m, ?_⟩
    rw [← hm]
    unfold World.cell?
    rw [hbel.block _ hgl]
  have hne := h.ne
  have c3 := ht.cell 3
  simp at c3
  have ht2 := ht.set 3 v'
  simp at ht2
  obtain ⟨a', c', hv', _⟩ := hrow.lst
  subst hv'
  exact ⟨a', _, c', w2, hr, c3, ht.frozen 3, hra.otherR (by omega) 3 _, hbu.newR (by omega) 3 _, hz.other (by omega) 3 _, ht2, h.ne, MX.but (b := tb) hmx (But.setCell _ _ _ _) (by omega), hrow.set ht (by decide) 3 _⟩
theorem name_os {b : Nat} {w : World} {l x r : List UInt8} (h : RA w b l) (hm : MX w) (hl : l.length ≤ 1048576) (hg : lays145_ren.g 1 ≠ b) (hn : nm l = some (x, r)) :
    Calls Tryd.prog 73 #[.pointer (some ⟨b, 0, none⟩)] (w.alloc (.cells zt 45)) fun e w' => e = .returned (.string ⟨x.toArray⟩) ∧ OS b w w'.heap.size ⟨x.toArray⟩ (.slice none 0 0) [] (w'.alloc (.cells #[.int .i64 0, .string ⟨x.toArray⟩, .string ⟨#[]⟩, .slice none 0 0, .int .i64 0] 45)) r := by
  have hal : Below w.heap.size w (w.alloc (.cells zt 45)) := (Below.refl _ _).alloc (Nat.le_refl _) _
  have C := name_any b l _ (h.below hal) hl
  rw [hn] at C
  refine C.mono ?_
  rintro e w' ⟨h1, h2, h3⟩
  have hlt := h.lt
  have hz := h3.size
  simp at hz
  have hal2 : Below w'.heap.size w' (w'.alloc (.cells #[.int .i64 0, .string ⟨x.toArray⟩, .string ⟨#[]⟩, .slice none 0 0, .int .i64 0] 45)) := (Below.refl _ _).alloc (Nat.le_refl _) _
  exact ⟨h1, h2.below hal2, ((But.of_below hal).trans h3).trans (But.of_below hal2), ((Blk.new w _ _).but h3 (by omega)).below hal2, Blk.new _ _ _, by omega, ((hm.below hal).but h3 hg).below hal2, ARow.nil _ _⟩
theorem ARow.set5 {w : World} {B : Nat} {v : Value} {ps : List At} (h : ARow w B v ps) {c : Nat} {x0 x1 x2 x3 x4 : Value} (hc : Blk w c #[x0, x1, x2, x3, x4] 45) (v0 v1 v2 v3 v4 : Value) : ARow (st5 w c v0 v1 v2 v3 v4) B v ps := by
  have k1 := hc.set 0 v0
  have k2 := k1.set 1 v1
  have k3 := k2.set 2 v2
  have k4 := k3.set 3 v3
  exact ((((h.set hc (by decide) 0 v0).set k1 (by decide) 1 v1).set k2 (by decide) 2 v2).set k3 (by decide) 3 v3).set k4 (by decide) 4 v4
set_option maxHeartbeats 4000000 in
theorem opening_any (b : Nat) (l : List UInt8) (w : World) (h : RA w b l) (hm : MX w) (hl : l.length ≤ 1048576) (hv : Vt l) (hg : lays145_ren.g 1 ≠ b) :
    Calls Tryd.prog 60 #[.pointer (some ⟨b, 0, none⟩)] w (OpR b w (op l)) := by
  have hgl : lays145_ren.g 1 < w.heap.size := by obtain ⟨m, hm⟩ := hm; exact cell_lt' hm
  have HRA := hide h
  have HMX := hide hm
  have HLE := hide hl
  have HG := hide hg
  have HGL := hide hgl
  have HLT := hide h.lt
  unfold op
  cases hn : nm l with
  | none =>
    have C := hide (name_no h hl hn (.cells zt 45))
    clear h hm hl hv hg hn hgl
    go_enter Tryd.func60, Tryd.ntmps60
    go_wp2_with (first | (go_at_call 73; refine C.out.mono ?_; rintro e w1 ⟨rfl, hb⟩))
    exact ⟨rfl, rfl, hb⟩
  | some p =>
    obtain ⟨x, r⟩ := p
    have HNM := hide hn
    have hvr := vt_nm hv hn
    have hrl := (nm_len hn).1
    have HLN := hide (show r.length ≤ 1048576 by omega)
    have HVR := hide hvr
    obtain ⟨x0, hx⟩ : ∃ X : ByteArray, (⟨x.toArray⟩ : ByteArray) = X := ⟨_, rfl⟩
    have CN := hide (name_os h hm hl hg hn)
    rw [hx] at CN
    have HX := hide hx
    obtain ⟨R0, hR0⟩ : ∃ R0, opF (r.length + 1) r [] = R0 := ⟨_, rfl⟩
    have HOP := hide (show OP r [] R0 from ⟨_, Nat.lt_succ_self _, hR0⟩)
    obtain ⟨RR, hRR⟩ : ∃ RR, (match R0 with
      | none => none
      | some (k, ps, q) => some (k, x, ps, q)) = RR := ⟨_, rfl⟩
    show Calls Tryd.prog _ _ _ (OpR b w (match opF (r.length + 1) r [] with
      | none => none
      | some (k, ps, q) => some (k, x, ps, q)))
    rw [hR0, hRR]
    have HRR := hide hRR
    clear h hm hl hv hg hn hgl hvr hrl hx hR0 hRR
    go_enter Tryd.func60, Tryd.ntmps60
    go_wp2_with (first | (go_at_call 73; refine CN.out.mono ?_; rintro e w1 ⟨rfl, h2⟩; have S := hide h2; clear h2))
    have H0 := hide (And.intro HOP.out (And.intro HLN.out HVR.out))
    go_loopw [] (fun wr => ∃ (q : List UInt8) (ps : List At) (v : Value), Hid (OS b w w1.heap.size x0 v ps wr q ∧ OP q ps R0 ∧ q.length ≤ 1048576 ∧ Vt q ∧ ps.length ≤ 16)) (fun wr => rdL b wr)
    case atStart => exact ⟨r, [], _, hide ⟨S.out, H0.out.1, H0.out.2.1, H0.out.2.2, by simp⟩⟩
    case round =>
      clear S H0 HOP CN HNM HLN HVR HMX HRA HLE
      obtain ⟨q, ps, v, HP⟩ := hrel
      obtain ⟨hS, hOP, hql, hqv, hps⟩ := HP.out
      have hrd := hS.ra.rdL
      obtain ⟨a, cap, rfl, _, hc1, hc2⟩ := hS.rw'.lst
      obtain ⟨n, hn⟩ : ∃ n, ps.length = n := ⟨_, rfl⟩
      rw [hn] at hS
      have S0 := hide hS
      have n1 : ¬ w1.heap.size = w.heap.size := by have := hS.ne; omega
      have n2 : ¬ w.heap.size = w1.heap.size := by have := hS.ne; omega
      have HN := hide hn
      have HN6 := hide (show ps.length ≤ 1000000 by omega)
      have HL := hide hql
      have HRD := hide hrd
      have HBL := hide (show (bk q).length ≤ 1048576 from Nat.le_trans (bk_le q) hql)
      have HVB := hide (vt_bk hqv)
      obtain ⟨D, hD⟩ : ∃ D : Bool, decide ((bk q).length < q.length) = D := ⟨_, rfl⟩
      have HD := hide hD
      cases h62 : hp [62] (bk q)
      · have H62 := hide h62
        cases h47 : hp [47, 62] (bk q)
        · have H47 := hide h47
          by_cases hd : D = true ∧ n < 16
          · obtain ⟨rfl, hn16⟩ := hd
            have hcond : (bk q).length < q.length ∧ ps.length < 16 := ⟨of_decide_eq_true hD, by omega⟩
            have hn16' : (n : Int) < 16 := by omega
            cases hA : att (bk q) with
            | none =>
              have hR := hOP.d h62 h47 hcond hA
              subst hR
              have HRR2 := HRR.out
              subst HRR2
              have HA := hide hA
              clear hS hOP hql hqv hps hrd hn hD h62 h47 hcond hA HP hc1 hc2 HRR
              go_wp2_with (first
                | (go_at_call 74; refine (blanks_os S0 HLT.out HG.out HL.out HD.out).mono ?_; rintro e w2 ⟨rfl, h2⟩; have S1 := hide h2; clear h2 S0)
                | (go_at_call 58; refine (take_osf S1 (p := [62]) H62.out HLT.out HG.out).mono ?_; rintro e w3 ⟨rfl, h2⟩; have S2 := hide h2; clear h2 S1)
                | (go_at_call 58; refine (take_osf S2 (p := [47, 62]) H47.out HLT.out HG.out).mono ?_; rintro e w3 ⟨rfl, h2⟩; have S3 := hide h2; have d3 := S3.out.t.cell 3; simp at d3; clear h2 S2)
                | (go_at_call 75; refine (att_no S3 HG.out HBL.out HVB.out HA.out).mono ?_; rintro e w5 ⟨rfl, h2⟩; have G := hide h2; clear h2)
                | (go_at_call 57; refine (must_t _).mono ?_; rintro e w4 ⟨rfl, h2⟩; subst h2))
              exact ⟨rfl, rfl, G.out⟩
            | some p =>
              obtain ⟨y, t, z⟩ := p
              have HA := hide hA
              cases hN : nmd ps y
              · have hO2 := hOP.f h62 h47 hcond hA hN
                have HNN := hide hN
                have hzl := att_len hA
                have HO2 := hide (And.intro hO2 (And.intro (show z.length ≤ 1048576 by have := hzl.1; have := bk_le q; omega) (And.intro (hzl.2 (vt_bk hqv)) (show (ps ++ [(y, t)]).length ≤ 16 by rw [List.length_append]; simp; omega))))
                have HZ := hide (show z.length < q.length by have := hzl.1; have := bk_le q; omega)
                clear hS hOP hql hqv hps hrd hn hD h62 h47 hcond hA HP hc1 hc2 hN hO2 hzl
                go_wp2_with (first
                  | (go_at_call 74; refine (blanks_os S0 HLT.out HG.out HL.out HD.out).mono ?_; rintro e w2 ⟨rfl, h2⟩; have S1 := hide h2; clear h2 S0)
                  | (go_at_call 58; refine (take_osf S1 (p := [62]) H62.out HLT.out HG.out).mono ?_; rintro e w3 ⟨rfl, h2⟩; have S2 := hide h2; clear h2 S1)
                  | (go_at_call 58; refine (take_osf S2 (p := [47, 62]) H47.out HLT.out HG.out).mono ?_; rintro e w3 ⟨rfl, h2⟩; have S3 := hide h2; have d3 := S3.out.t.cell 3; simp at d3; clear h2 S2)
                  | (go_at_call 75; refine (att_yes S3 HLT.out HG.out HBL.out HVB.out HA.out).mono ?_; rintro e w5 ⟨rfl, h2, h3⟩; clear d3; have S4 := hide h2; have H3 := hide h3; have d3 := S4.out.t.cell 3; simp at d3; have a0 := h3.cell 0; have a1 := h3.cell 1; simp at a0 a1; clear h2 h3 S3)
                  | (go_at_call 76; refine (named_os S4 HN.out HN6.out HNN.out).mono ?_; rintro e w6 ⟨rfl, h2, h3⟩; clear a0 a1 d3; have S5 := hide h2; have d3 := S5.out.t.cell 3; simp at d3; have H4 := hide (H3.out.below h3); have a0 := H4.out.cell 0; have a1 := H4.out.cell 1; simp at a0 a1; obtain ⟨an, nn, cn, wa, hr, p3, p4, hS⟩ := h2.app HLT.out HGL.out HN6.out y t; have HR := hide hr; have SN := hide hS; clear h2 h3 hr hS S4)
                  | (at_builtin; refine Lib.wpList_append_run _ rfl _ _ _ _ rfl _ _ rfl rfl _ _ HR.out ?_)
                  | (go_at_call 57; refine (must_t _).mono ?_; rintro e w4 ⟨rfl, h2⟩; subst h2))
                go_roundw
                case rel => exact ⟨z, _, _, hide ⟨SN.out, HO2.out⟩⟩
                case measure => rw [SN.out.ra.rdL, HRD.out]; exact HZ.out
              · have hR := hOP.e h62 h47 hcond hA hN
                subst hR
                have HRR2 := HRR.out
                subst HRR2
                have HNN := hide hN
                clear hS hOP hql hqv hps hrd hn hD h62 h47 hcond hA HP hc1 hc2 hN HRR
                go_wp2_with (first
                  | (go_at_call 74; refine (blanks_os S0 HLT.out HG.out HL.out HD.out).mono ?_; rintro e w2 ⟨rfl, h2⟩; have S1 := hide h2; clear h2 S0)
                  | (go_at_call 58; refine (take_osf S1 (p := [62]) H62.out HLT.out HG.out).mono ?_; rintro e w3 ⟨rfl, h2⟩; have S2 := hide h2; clear h2 S1)
                  | (go_at_call 58; refine (take_osf S2 (p := [47, 62]) H47.out HLT.out HG.out).mono ?_; rintro e w3 ⟨rfl, h2⟩; have S3 := hide h2; have d3 := S3.out.t.cell 3; simp at d3; clear h2 S2)
                  | (go_at_call 75; refine (att_yes S3 HLT.out HG.out HBL.out HVB.out HA.out).mono ?_; rintro e w5 ⟨rfl, h2, h3⟩; clear d3; have S4 := hide h2; have H3 := hide h3; have d3 := S4.out.t.cell 3; simp at d3; have a0 := h3.cell 0; have a1 := h3.cell 1; simp at a0 a1; clear h2 h3 S3)
                  | (go_at_call 76; refine (named_os S4 HN.out HN6.out HNN.out).mono ?_; rintro e w6 ⟨rfl, h2, h3⟩; have S := hide h2; clear h2 h3 S4)
                  | (go_at_call 57; refine (must_t _).mono ?_; rintro e w4 ⟨rfl, h2⟩; subst h2)
                  | (go_at_call 57; refine (must_f _).mono ?_; rintro e w4 ⟨rfl, h2⟩; subst h2))
                exact ⟨rfl, rfl, S.out.bu⟩
          · have hR := hOP.c h62 h47 (fun h => hd ⟨by rw [← hD]; exact decide_eq_true h.1, by rw [← hn]; exact h.2⟩)
            subst hR
            have HRR2 := HRR.out
            subst HRR2
            cases D
            · clear hS hOP hql hqv hps hrd hn hD h62 h47 HP hc1 hc2 hd HRR
              go_wp2_with (first
                | (go_at_call 74; refine (blanks_os S0 HLT.out HG.out HL.out HD.out).mono ?_; rintro e w2 ⟨rfl, h2⟩; have S1 := hide h2; clear h2 S0)
                | (go_at_call 58; refine (take_osf S1 (p := [62]) H62.out HLT.out HG.out).mono ?_; rintro e w3 ⟨rfl, h2⟩; have S2 := hide h2; clear h2 S1)
                | (go_at_call 58; refine (take_osf S2 (p := [47, 62]) H47.out HLT.out HG.out).mono ?_; rintro e w3 ⟨rfl, h2⟩; have S3 := hide h2; have d3 := S3.out.t.cell 3; simp at d3; clear h2 S2)
                | (go_at_call 57; refine (must_f _).mono ?_; rintro e w4 ⟨rfl, h2⟩; subst h2))
              exact ⟨rfl, rfl, S3.out.bu⟩
            · have hn16 : decide ((n : Int) < 16) = false := decide_eq_false (by intro h; exact hd ⟨rfl, by omega⟩)
              clear hS hOP hql hqv hps hrd hn hD h62 h47 HP hc1 hc2 hd HRR
              go_wp2_with (first
                | (go_at_call 74; refine (blanks_os S0 HLT.out HG.out HL.out HD.out).mono ?_; rintro e w2 ⟨rfl, h2⟩; have S1 := hide h2; clear h2 S0)
                | (go_at_call 58; refine (take_osf S1 (p := [62]) H62.out HLT.out HG.out).mono ?_; rintro e w3 ⟨rfl, h2⟩; have S2 := hide h2; clear h2 S1)
                | (go_at_call 58; refine (take_osf S2 (p := [47, 62]) H47.out HLT.out HG.out).mono ?_; rintro e w3 ⟨rfl, h2⟩; have S3 := hide h2; have d3 := S3.out.t.cell 3; simp at d3; clear h2 S2)
                | (go_at_call 57; refine (must_f _).mono ?_; rintro e w4 ⟨rfl, h2⟩; subst h2))
              exact ⟨rfl, rfl, S3.out.bu⟩
        · have H47 := hide h47
          have hR := hOP.b h62 h47
          subst hR
          have HRR2 := HRR.out
          subst HRR2
          clear hS hOP hql hqv hps hrd hn hD h62 h47 HP hc1 hc2 HRR
          go_wp2_with (first
            | (go_at_call 74; refine (blanks_os S0 HLT.out HG.out HL.out HD.out).mono ?_; rintro e w2 ⟨rfl, h2⟩; have S1 := hide h2; clear h2 S0)
            | (go_at_call 58; refine (take_osf S1 (p := [62]) H62.out HLT.out HG.out).mono ?_; rintro e w3 ⟨rfl, h2⟩; have S2 := hide h2; clear h2 S1)
            | (go_at_call 58; refine (take_os S2 (p := [47, 62]) H47.out HLT.out HG.out).mono ?_; rintro e w3 ⟨rfl, h2⟩; have S := hide h2; have d0 := S.out.t.cell 0; have d1 := S.out.t.cell 1; have d2 := S.out.t.cell 2; have d3 := S.out.t.cell 3; have d4 := S.out.t.cell 4; simp at d0 d1 d2 d3 d4; have f0 := S.out.t.frozen 0; have f3 := S.out.t.frozen 3; have r0 := S.out.z.cell 0; have r1 := S.out.z.cell 1; have r2 := S.out.z.cell 2; have r3 := S.out.z.cell 3; have r4 := S.out.z.cell 4; simp at r0 r1 r2 r3 r4; have q0 := S.out.z.frozen 0; have q1 := S.out.z.frozen 1; have q2 := S.out.z.frozen 2; have q3 := S.out.z.frozen 3; have q4 := S.out.z.frozen 4; clear h2 S2))
          have hbw : b ≠ w.heap.size := by have := HLT.out; omega
          have hbt : b ≠ w1.heap.size := by have := HLT.out; have := S.out.ne; omega
          have hzt : w.heap.size ≠ w1.heap.size := by have := S.out.ne; omega
          have F0 := hide (S.out.t.set 0 (.int .i64 3))
          have F1 := hide (set5 (S.out.z.other hzt 0 (.int .i64 3)) (.int .i64 3) (.string x0) (.string ⟨#[]⟩) (.slice a n cap) (.int .i64 0))
          have F2 := hide ((S.out.ra.otherR hbt 0 (.int .i64 3)).other5 hbw (.int .i64 3) (.string x0) (.string ⟨#[]⟩) (.slice a n cap) (.int .i64 0))
          have F3 := hide ((S.out.bu.newR (Nat.le_of_lt S.out.ne) 0 (.int .i64 3)).new5 (Nat.le_refl _) (.int .i64 3) (.string x0) (.string ⟨#[]⟩) (.slice a n cap) (.int .i64 0))
          have F4 := hide ((S.out.rw'.set S.out.t (by decide) 0 (.int .i64 3)).set5 (S.out.z.other hzt 0 (.int .i64 3)) (.int .i64 3) (.string x0) (.string ⟨#[]⟩) (.slice a n cap) (.int .i64 0))
          unfold st5 at F1 F2 F3 F4
          generalize ((((((w3.setCell ⟨w1.heap.size, 0, none⟩ (.int .i64 3)).setCell ⟨w.heap.size, 0, none⟩ (.int .i64 3)).setCell ⟨w.heap.size, 1, none⟩ (.string x0)).setCell ⟨w.heap.size, 2, none⟩ (.string ⟨#[]⟩)).setCell ⟨w.heap.size, 3, none⟩ (.slice a n cap)).setCell ⟨w.heap.size, 4, none⟩ (.int .i64 0)) = wf at F1 F2 F3 F4 ⊢
          have g0 := F1.out.cell 0; have g1 := F1.out.cell 1; have g2 := F1.out.cell 2; have g3 := F1.out.cell 3; have g4 := F1.out.cell 4
          simp at g0 g1 g2 g3 g4
          exact bodyPost_ret (v := tkv 3 x0 ⟨#[]⟩ (.slice a n cap) 0) (by simp [results, Tryd.results60, go_sem, g0, g1, g2, g3, g4]) rfl ⟨_, by rw [HX.out], F4.out, F2.out, F3.out⟩
      · have H62 := hide h62
        have hR := hOP.a h62
        subst hR
        have HRR2 := HRR.out
        subst HRR2
        clear hS hOP hql hqv hps hrd hn hD h62 HP hc1 hc2 HRR
        go_wp2_with (first
          | (go_at_call 74; refine (blanks_os S0 HLT.out HG.out HL.out HD.out).mono ?_; rintro e w2 ⟨rfl, h2⟩; have S1 := hide h2; clear h2 S0)
          | (go_at_call 58; refine (take_os S1 (p := [62]) H62.out HLT.out HG.out).mono ?_; rintro e w3 ⟨rfl, h2⟩; have S := hide h2; have d0 := S.out.t.cell 0; have d1 := S.out.t.cell 1; have d2 := S.out.t.cell 2; have d3 := S.out.t.cell 3; have d4 := S.out.t.cell 4; simp at d0 d1 d2 d3 d4; have f0 := S.out.t.frozen 0; have f3 := S.out.t.frozen 3; have r0 := S.out.z.cell 0; have r1 := S.out.z.cell 1; have r2 := S.out.z.cell 2; have r3 := S.out.z.cell 3; have r4 := S.out.z.cell 4; simp at r0 r1 r2 r3 r4; have q0 := S.out.z.frozen 0; have q1 := S.out.z.frozen 1; have q2 := S.out.z.frozen 2; have q3 := S.out.z.frozen 3; have q4 := S.out.z.frozen 4; clear h2 S1))
        have hbw : b ≠ w.heap.size := by have := HLT.out; omega
        have hbt : b ≠ w1.heap.size := by have := HLT.out; have := S.out.ne; omega
        have hzt : w.heap.size ≠ w1.heap.size := by have := S.out.ne; omega
        have F0 := hide (S.out.t.set 0 (.int .i64 1))
        have F1 := hide (set5 (S.out.z.other hzt 0 (.int .i64 1)) (.int .i64 1) (.string x0) (.string ⟨#[]⟩) (.slice a n cap) (.int .i64 0))
        have F2 := hide ((S.out.ra.otherR hbt 0 (.int .i64 1)).other5 hbw (.int .i64 1) (.string x0) (.string ⟨#[]⟩) (.slice a n cap) (.int .i64 0))
        have F3 := hide ((S.out.bu.newR (Nat.le_of_lt S.out.ne) 0 (.int .i64 1)).new5 (Nat.le_refl _) (.int .i64 1) (.string x0) (.string ⟨#[]⟩) (.slice a n cap) (.int .i64 0))
        have F4 := hide ((S.out.rw'.set S.out.t (by decide) 0 (.int .i64 1)).set5 (S.out.z.other hzt 0 (.int .i64 1)) (.int .i64 1) (.string x0) (.string ⟨#[]⟩) (.slice a n cap) (.int .i64 0))
        unfold st5 at F1 F2 F3 F4
        generalize ((((((w3.setCell ⟨w1.heap.size, 0, none⟩ (.int .i64 1)).setCell ⟨w.heap.size, 0, none⟩ (.int .i64 1)).setCell ⟨w.heap.size, 1, none⟩ (.string x0)).setCell ⟨w.heap.size, 2, none⟩ (.string ⟨#[]⟩)).setCell ⟨w.heap.size, 3, none⟩ (.slice a n cap)).setCell ⟨w.heap.size, 4, none⟩ (.int .i64 0)) = wf at F1 F2 F3 F4 ⊢
        have g0 := F1.out.cell 0; have g1 := F1.out.cell 1; have g2 := F1.out.cell 2; have g3 := F1.out.cell 3; have g4 := F1.out.cell 4
        simp at g0 g1 g2 g3 g4
        exact bodyPost_ret (v := tkv 1 x0 ⟨#[]⟩ (.slice a n cap) 0) (by simp [results, Tryd.results60, go_sem, g0, g1, g2, g3, g4]) rfl ⟨_, by rw [HX.out], F4.out, F2.out, F3.out⟩
end Go.Proofs.YtpmdekhjodhdmaaDoor.K17
