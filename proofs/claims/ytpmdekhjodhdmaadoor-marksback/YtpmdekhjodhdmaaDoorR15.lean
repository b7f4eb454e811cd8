/-
  Joined: K17H2, K17T.
-/
import Derived.BigRegion
import Derived.Defers
import Derived.Laws.Pointers
import Derived.Lib.AppendZeros
import Derived.Recover
import Derived.Test.YtpmdekhjodhdmaaDoorR14
namespace Go.Proofs.YtpmdekhjodhdmaaDoor.K17
open Go.RowKit Go.Proofs.YtpmdekhjodhdmaaDoor
open Go.Lib
set_option linter.unusedVariables false
set_option linter.unusedSimpArgs false
set_option maxRecDepth 8000
theorem OS.app {b : Nat} {w : World} {tb : Nat} {x : ByteArray} {v : Value} {ps : List At} {cur : World} {l : List UInt8} (h : OS b w tb x v ps cur l) (hlt : b < w.heap.size) (hgl : lays145_ren.g 1 < w.heap.size) (hl : ps.length ≤ 1000000) (y t : List UInt8) :
    ∃ a' n' c' w2, (Builtin.append_ #[43, 43] 43 #[v, .slice (some ⟨cur.heap.size, 0, none⟩) 1 1]).run Tryd.prog (cur.alloc (.cells #[.string ⟨y.toArray⟩, .string ⟨t.toArray⟩] 47)) = .ok (.slice a' n' c') w2 ∧ w2.cell? ⟨tb, 3, none⟩ = some v ∧ w2.frozen? ⟨tb, 3, none⟩ = false ∧ OS b w tb x (.slice a' n' c') (ps ++ [(y, t)]) (w2.setCell ⟨tb, 3, none⟩ (.slice a' n' c')) l := by
  obtain ⟨v', w2, hr, hrow, hbel, hkc⟩ := app_at (y, t) cur.heap.size h.rw' h.bu.size hl rfl
  have hra : RA w2 b l := hkc _ _ _ _ h.ra (by decide)
  have hz : Blk w2 w.heap.size zt 45 := hkc _ _ _ _ h.z (by decide)
  have ht : Blk w2 tb #[.int .i64 0, .string x, .string ⟨#[]⟩, v, .int .i64 0] 45 := hkc _ _ _ _ h.t (by decide)
  have hbu : But b w w2 := h.bu.trans' hbel
  have hmx : MX w2 := by
    obtain ⟨m, hm⟩ := h.mx
    refine ⟨m, ?_⟩
    rw [← hm]
    unfold World.cell?
    rw [hbel.block _ hgl]
  have hne := h.ne
  have c3 := ht.cell 3
  simp at c3
  have ht2 := ht.set 3 v'
  simp at ht2
  obtain ⟨a', c', hv', _⟩ := hrow.lst
  subst hv'
  exact ⟨a', _, c', w2, hr, c3, ht.frozen 3, hra.otherR (by omega) 3 _, hbu.newR (by omega) 3 _, hz.other (by omega) 3 _, ht2, h.ne, MX.but (b := tb) hmx (But.setCell _ _ _ _) (by omega), hrow.set ht (by decide) 3 _⟩
theorem name_os {b : Nat} {w : World} {l x r : List UInt8} (h : RA w b l) (hm : MX w) (hl : l.length ≤ 1048576) (hg : lays145_ren.g 1 ≠ b) (hn : nm l = some (x, r)) :
    Calls Tryd.prog 73 #[.pointer (some ⟨b, 0, none⟩)] (w.alloc (.cells zt 45)) fun e w' => e = .returned (.string ⟨x.toArray⟩) ∧ OS b w w'.heap.size ⟨x.toArray⟩ (.slice none 0 0) [] (w'.alloc (.cells #[.int .i64 0, .string ⟨x.toArray⟩, .string ⟨#[]⟩, .slice none 0 0, .int .i64 0] 45)) r := by
  have hal : Below w.heap.size w (w.alloc (.cells zt 45)) := (Below.refl _ _).alloc (Nat.le_refl _) _
  have C := name_any b l _ (h.below hal) hl
  rw [hn] at C
  refine C.mono ?_
  rintro e w' ⟨h1, h2, h3⟩
  have hlt := h.lt
  have hz := h3.size
  simp at hz
  have hal2 : Below w'.heap.size w' (w'.alloc (.cells #[.int .i64 0, .string ⟨x.toArray⟩, .string ⟨#[]⟩, .slice none 0 0, .int .i64 0] 45)) := (Below.refl _ _).alloc (Nat.le_refl _) _
  exact ⟨h1, h2.below hal2, ((But.of_below hal).trans h3).trans (But.of_below hal2), ((Blk.new w _ _).but h3 (by omega)).below hal2, Blk.new _ _ _, by omega, ((hm.below hal).but h3 hg).below hal2, ARow.nil _ _⟩
theorem ARow.set5 {w : World} {B : Nat} {v : Value} {ps : List At} (h : ARow w B v ps) {c : Nat} {x0 x1 x2 x3 x4 : Value} (hc : Blk w c #[x0, x1, x2, x3, x4] 45) (v0 v1 v2 v3 v4 : Value) : ARow (st5 w c v0 v1 v2 v3 v4) B v ps := by
  have k1 := hc.set 0 v0
  have k2 := k1.set 1 v1
  have k3 := k2.set 2 v2
  have k4 := k3.set 3 v3
  exact ((((h.set hc (by decide) 0 v0).set k1 (by decide) 1 v1).set k2 (by decide) 2 v2).set k3 (by decide) 3 v3).set k4 (by decide) 4 v4
set_option maxHeartbeats 4000000 in
theorem opening_any (b : Nat) (l : List UInt8) (w : World) (h : RA w b l) (hm : MX w) (hl : l.length ≤ 1048576) (hv : Vt l) (hg : lays145_ren.g 1 ≠ b) :
    Calls Tryd.prog 60 #[.pointer (some ⟨b, 0, none⟩)] w (OpR b w (op l)) := by
  have hgl : lays145_ren.g 1 < w.heap.size := by obtain ⟨m, hm⟩ := hm; exact cell_lt' hm
  have HRA := hide h
  have HMX := hide hm
  have HLE := hide hl
  have HG := hide hg
  have HGL := hide hgl
  have HLT := hide h.lt
  unfold op
  cases hn : nm l with
  | none =>
    have C := hide (name_no h hl hn (.cells zt 45))
    clear h hm hl hv hg hn hgl
    go_enter Tryd.func60, Tryd.ntmps60
    go_wp2_with (first | (go_at_call 73; refine C.out.mono ?_; rintro e w1 ⟨rfl, hb⟩))
    exact ⟨rfl, rfl, hb⟩
  | some p =>
    obtain ⟨x, r⟩ := p
    have HNM := hide hn
    have hvr := vt_nm hv hn
    have hrl := (nm_len hn).1
    have HLN := hide (show r.length ≤ 1048576 by omega)
    have HVR := hide hvr
    obtain ⟨x0, hx⟩ : ∃ X : ByteArray, (⟨x.toArray⟩ : ByteArray) = X := ⟨_, rfl⟩
    have CN := hide (name_os h hm hl hg hn)
    rw [hx] at CN
    have HX := hide hx
    obtain ⟨R0, hR0⟩ : ∃ R0, opF (r.length + 1) r [] = R0 := ⟨_, rfl⟩
    have HOP := hide (show OP r [] R0 from ⟨_, Nat.lt_succ_self _, hR0⟩)
    obtain ⟨RR, hRR⟩ : ∃ RR, (match R0 with
      | none => none
      | some (k, ps, q) => some (k, x, ps, q)) = RR := ⟨_, rfl⟩
    show Calls Tryd.prog _ _ _ (OpR b w (match opF (r.length + 1) r [] with
      | none => none
      | some (k, ps, q) => some (k, x, ps, q)))
    rw [hR0, hRR]
    have HRR := hide hRR
    clear h hm hl hv hg hn hgl hvr hrl hx hR0 hRR
    go_enter Tryd.func60, Tryd.ntmps60
    go_wp2_with (first | (go_at_call 73; refine CN.out.mono ?_; rintro e w1 ⟨rfl, h2⟩; have S := hide h2; clear h2))
    have H0 := hide (And.intro HOP.out (And.intro HLN.out HVR.out))
    go_loopw [] (fun wr => ∃ (q : List UInt8) (ps : List At) (v : Value), Hid (OS b w w1.heap.size x0 v ps wr q ∧ OP q ps R0 ∧ q.length ≤ 1048576 ∧ Vt q ∧ ps.length ≤ 16)) (fun wr => rdL b wr)
    case atStart => exact ⟨r, [], _, hide ⟨S.out, H0.out.1, H0.out.2.1, H0.out.2.2, by simp⟩⟩
    case round =>
      clear S H0 HOP CN HNM HLN HVR HMX HRA HLE
      obtain ⟨q, ps, v, HP⟩ := hrel
      obtain ⟨hS, hOP, hql, hqv, hps⟩ := HP.out
      have hrd := hS.ra.rdL
      obtain ⟨a, cap, rfl, _, hc1, hc2⟩ := hS.rw'.lst
      obtain ⟨n, hn⟩ : ∃ n, ps.length = n := ⟨_, rfl⟩
      rw [hn] at hS
      have S0 := hide hS
      have n1 : ¬ w1.heap.size = w.heap.size := by have := hS.ne; omega
      have n2 : ¬ w.heap.size = w1.heap.size := by have := hS.ne; omega
      have HN := hide hn
      have HN6 := hide (show ps.length ≤ 1000000 by omega)
      have HL := hide hql
      have HRD := hide hrd
      have HBL := hide (show (bk q).length ≤ 1048576 from Nat.le_trans (bk_le q) hql)
      have HVB := hide (vt_bk hqv)
      obtain ⟨D, hD⟩ : ∃ D : Bool, decide ((bk q).length < q.length) = D := ⟨_, rfl⟩
      have HD := hide hD
      cases h62 : hp [62] (bk q)
      · have H62 := hide h62
        cases h47 : hp [47, 62] (bk q)
        · have H47 := hide h47
          by_cases hd : D = true ∧ n < 16
          · obtain ⟨rfl, hn16⟩ := hd
            have hcond : (bk q).length < q.length ∧ ps.length < 16 := ⟨of_decide_eq_true hD, by omega⟩
            have hn16' : (n : Int) < 16 := by omega
            cases hA : att (bk q) with
            | none =>
              have hR := hOP.d h62 h47 hcond hA
              subst hR
              have HRR2 := HRR.out
              subst HRR2
              have HA := hide hA
              clear hS hOP hql hqv hps hrd hn hD h62 h47 hcond hA HP hc1 hc2 HRR
              go_wp2_with (first
                | (go_at_call 74; refine (blanks_os S0 HLT.out HG.out HL.out HD.out).mono ?_; rintro e w2 ⟨rfl, h2⟩; have S1 := hide h2; clear h2 S0)
                | (go_at_call 58; refine (take_osf S1 (p := [62]) H62.out HLT.out HG.out).mono ?_; rintro e w3 ⟨rfl, h2⟩; have S2 := hide h2; clear h2 S1)
                | (go_at_call 58; refine (take_osf S2 (p := [47, 62]) H47.out HLT.out HG.out).mono ?_; rintro e w3 ⟨rfl, h2⟩; have S3 := hide h2; have d3 := S3.out.t.cell 3; simp at d3; clear h2 S2)
                | (go_at_call 75; refine (att_no S3 HG.out HBL.out HVB.out HA.out).mono ?_; rintro e w5 ⟨rfl, h2⟩; have G := hide h2; clear h2)
                | (go_at_call 57; refine (must_t _).mono ?_; rintro e w4 ⟨rfl, h2⟩; subst h2))
              exact ⟨rfl, rfl, G.out⟩
            | some p =>
              obtain ⟨y, t, z⟩ := p
              have HA := hide hA
              cases hN : nmd ps y
              · have hO2 := hOP.f h62 h47 hcond hA hN
                have HNN := hide hN
                have hzl := att_len hA
                have HO2 := hide (And.intro hO2 (And.intro (show z.length ≤ 1048576 by have := hzl.1; have := bk_le q; omega) (And.intro (hzl.2 (vt_bk hqv)) (show (ps ++ [(y, t)]).length ≤ 16 by rw [List.length_append]; simp; omega))))
                have HZ := hide (show z.length < q.length by have := hzl.1; have := bk_le q; omega)
                clear hS hOP hql hqv hps hrd hn hD h62 h47 hcond hA HP hc1 hc2 hN hO2 hzl
                go_wp2_with (first
                  | (go_at_call 74; refine (blanks_os S0 HLT.out HG.out HL.out HD.out).mono ?_; rintro e w2 ⟨rfl, h2⟩; have S1 := hide h2; clear h2 S0)
                  | (go_at_call 58; refine (take_osf S1 (p := [62]) H62.out HLT.out HG.out).mono ?_; rintro e w3 ⟨rfl, h2⟩; have S2 := hide h2; clear h2 S1)
                  | (go_at_call 58; refine (take_osf S2 (p := [47, 62]) H47.out HLT.out HG.out).mono ?_; rintro e w3 ⟨rfl, h2⟩; have S3 := hide h2; have d3 := S3.out.t.cell 3; simp at d3; clear h2 S2)
                  | (go_at_call 75; refine (att_yes S3 HLT.out HG.out HBL.out HVB.out HA.out).mono ?_; rintro e w5 ⟨rfl, h2, h3⟩; clear d3; have S4 := hide h2; have H3 := hide h3; have d3 := S4.out.t.cell 3; simp at d3; have a0 := h3.cell 0; have a1 := h3.cell 1; simp at a0 a1; clear h2 h3 S3)
                  | (go_at_call 76; refine (named_os S4 HN.out HN6.out HNN.out).mono ?_; rintro e w6 ⟨rfl, h2, h3⟩; clear a0 a1 d3; have S5 := hide h2; have d3 := S5.out.t.cell 3; simp at d3; have H4 := hide (H3.out.below h3); have a0 := H4.out.cell 0; have a1 := H4.out.cell 1; simp at a0 a1; obtain ⟨an, nn, cn, wa, hr, p3, p4, hS⟩ := h2.app HLT.out HGL.out HN6.out y t; have HR := hide hr; have SN := hide hS; clear h2 h3 hr hS S4)
                  | (at_builtin; refine Lib.wpList_append_run _ rfl _ _ _ _ rfl _ _ rfl rfl _ _ HR.out ?_)
                  | (go_at_call 57; refine (must_t _).mono ?_; rintro e w4 ⟨rfl, h2⟩; subst h2))
                go_roundw
                case rel => exact ⟨z, _, _, hide ⟨SN.out, HO2.out⟩⟩
                case measure => rw [SN.out.ra.rdL, HRD.out]; exact HZ.out
              · have hR := hOP.e h62 h47 hcond hA hN
                subst hR
                have HRR2 := HRR.out
                subst HRR2
                have HNN := hide hN
                clear hS hOP hql hqv hps hrd hn hD h62 h47 hcond hA HP hc1 hc2 hN HRR
                go_wp2_with (first
                  | (go_at_call 74; refine (blanks_os S0 HLT.out HG.out HL.out HD.out).mono ?_; rintro e w2 ⟨rfl, h2⟩; have S1 := hide h2; clear h2 S0)
                  | (go_at_call 58; refine (take_osf S1 (p := [62]) H62.out HLT.out HG.out).mono ?_; rintro e w3 ⟨rfl, h2⟩; have S2 := hide h2; clear h2 S1)
                  | (go_at_call 58; refine (take_osf S2 (p := [47, 62]) H47.out HLT.out HG.out).mono ?_; rintro e w3 ⟨rfl, h2⟩; have S3 := hide h2; have d3 := S3.out.t.cell 3; simp at d3; clear h2 S2)
                  | (go_at_call 75; refine (att_yes S3 HLT.out HG.out HBL.out HVB.out HA.out).mono ?_; rintro e w5 ⟨rfl, h2, h3⟩; clear d3; have S4 := hide h2; have H3 := hide h3; have d3 := S4.out.t.cell 3; simp at d3; have a0 := h3.cell 0; have a1 := h3.cell 1; simp at a0 a1; clear h2 h3 S3)
                  | (go_at_call 76; refine (named_os S4 HN.out HN6.out HNN.out).mono ?_; rintro e w6 ⟨rfl, h2, h3⟩; have S := hide h2; clear h2 h3 S4)
                  | (go_at_call 57; refine (must_t _).mono ?_; rintro e w4 ⟨rfl, h2⟩; subst h2)
                  | (go_at_call 57; refine (must_f _).mono ?_; rintro e w4 ⟨rfl, h2⟩; subst h2))
                exact ⟨rfl, rfl, S.out.bu⟩
          · have hR := hOP.c h62 h47 (fun h => hd ⟨by rw [← hD]; exact decide_eq_true h.1, by rw [← hn]; exact h.2⟩)
            subst hR
            have HRR2 := HRR.out
            subst HRR2
            cases D
            · clear hS hOP hql hqv hps hrd hn hD h62 h47 HP hc1 hc2 hd HRR
              go_wp2_with (first
                | (go_at_call 74; refine (blanks_os S0 HLT.out HG.out HL.out HD.out).mono ?_; rintro e w2 ⟨rfl, h2⟩; have S1 := hide h2; clear h2 S0)
                | (go_at_call 58; refine (take_osf S1 (p := [62]) H62.out HLT.out HG.out).mono ?_; rintro e w3 ⟨rfl, h2⟩; have S2 := hide h2; clear h2 S1)
                | (go_at_call 58; refine (take_osf S2 (p := [47, 62]) H47.out HLT.out HG.out).mono ?_; rintro e w3 ⟨rfl, h2⟩; have S3 := hide h2; have d3 := S3.out.t.cell 3; simp at d3; clear h2 S2)
                | (go_at_call 57; refine (must_f _).mono ?_; rintro e w4 ⟨rfl, h2⟩; subst h2))
              exact ⟨rfl, rfl, S3.out.bu⟩
            · have hn16 : decide ((n : Int) < 16) = false := decide_eq_false (by intro h; exact hd ⟨rfl, by omega⟩)
              clear hS hOP hql hqv hps hrd hn hD h62 h47 HP hc1 hc2 hd HRR
              go_wp2_with (first
                | (go_at_call 74; refine (blanks_os S0 HLT.out HG.out HL.out HD.out).mono ?_; rintro e w2 ⟨rfl, h2⟩; have S1 := hide h2; clear h2 S0)
                | (go_at_call 58; refine (take_osf S1 (p := [62]) H62.out HLT.out HG.out).mono ?_; rintro e w3 ⟨rfl, h2⟩; have S2 := hide h2; clear h2 S1)
                | (go_at_call 58; refine (take_osf S2 (p := [47, 62]) H47.out HLT.out HG.out).mono ?_; rintro e w3 ⟨rfl, h2⟩; have S3 := hide h2; have d3 := S3.out.t.cell 3; simp at d3; clear h2 S2)
                | (go_at_call 57; refine (must_f _).mono ?_; rintro e w4 ⟨rfl, h2⟩; subst h2))
              exact ⟨rfl, rfl, S3.out.bu⟩
        · have H47 := hide h47
          have hR := hOP.b h62 h47
          subst hR
          have HRR2 := HRR.out
          subst HRR2
          clear hS hOP hql hqv hps hrd hn hD h62 h47 HP hc1 hc2 HRR
          go_wp2_with (first
            | (go_at_call 74; refine (blanks_os S0 HLT.out HG.out HL.out HD.out).mono ?_; rintro e w2 ⟨rfl, h2⟩; have S1 := hide h2; clear h2 S0)
            | (go_at_call 58; refine (take_osf S1 (p := [62]) H62.out HLT.out HG.out).mono ?_; rintro e w3 ⟨rfl, h2⟩; have S2 := hide h2; clear h2 S1)
            | (go_at_call 58; refine (take_os S2 (p := [47, 62]) H47.out HLT.out HG.out).mono ?_; rintro e w3 ⟨rfl, h2⟩; have S := hide h2; have d0 := S.out.t.cell 0; have d1 := S.out.t.cell 1; have d2 := S.out.t.cell 2; have d3 := S.out.t.cell 3; have d4 := S.out.t.cell 4; simp at d0 d1 d2 d3 d4; have f0 := S.out.t.frozen 0; have f3 := S.out.t.frozen 3; have r0 := S.out.z.cell 0; have r1 := S.out.z.cell 1; have r2 := S.out.z.cell 2; have r3 := S.out.z.cell 3; have r4 := S.out.z.cell 4; simp at r0 r1 r2 r3 r4; have q0 := S.out.z.frozen 0; have q1 := S.out.z.frozen 1; have q2 := S.out.z.frozen 2; have q3 := S.out.z.frozen 3; have q4 := S.out.z.frozen 4; clear h2 S2))
          have hbw : b ≠ w.heap.size := by have := HLT.out; omega
          have hbt : b ≠ w1.heap.size := by have := HLT.out; have := S.out.ne; omega
          have hzt : w.heap.size ≠ w1.heap.size := by have := S.out.ne; omega
          have F0 := hide (S.out.t.set 0 (.int .i64 3))
          have F1 := hide (set5 (S.out.z.other hzt 0 (.int .i64 3)) (.int .i64 3) (.string x0) (.string ⟨#[]⟩) (.slice a n cap) (.int .i64 0))
          have F2 := hide ((S.out.ra.otherR hbt 0 (.int .i64 3)).other5 hbw (.int .i64 3) (.string x0) (.string ⟨#[]⟩) (.slice a n cap) (.int .i64 0))
          have F3 := hide ((S.out.bu.newR (Nat.le_of_lt S.out.ne) 0 (.int .i64 3)).new5 (Nat.le_refl _) (.int .i64 3) (.string x0) (.string ⟨#[]⟩) (.slice a n cap) (.int .i64 0))
          have F4 := hide ((S.out.rw'.set S.out.t (by decide) 0 (.int .i64 3)).set5 (S.out.z.other hzt 0 (.int .i64 3)) (.int .i64 3) (.string x0) (.string ⟨#[]⟩) (.slice a n cap) (.int .i64 0))
          unfold st5 at F1 F2 F3 F4
          generalize ((((((w3.setCell ⟨w1.heap.size, 0, none⟩ (.int .i64 3)).setCell ⟨w.heap.size, 0, none⟩ (.int .i64 3)).setCell ⟨w.heap.size, 1, none⟩ (.string x0)).setCell ⟨w.heap.size, 2, none⟩ (.string ⟨#[]⟩)).setCell ⟨w.heap.size, 3, none⟩ (.slice a n cap)).setCell ⟨w.heap.size, 4, none⟩ (.int .i64 0)) = wf at F1 F2 F3 F4 ⊢
          have g0 := F1.out.cell 0; have g1 := F1.out.cell 1; have g2 := F1.out.cell 2; have g3 := F1.out.cell 3; have g4 := F1.out.cell 4
          simp at g0 g1 g2 g3 g4
          exact bodyPost_ret (v := tkv 3 x0 ⟨#[]⟩ (.slice a n cap) 0) (by simp [results, Tryd.results60, go_sem, g0, g1, g2, g3, g4]) rfl ⟨_, by rw [HX.out], F4.out, F2.out, F3.out⟩
      · have H62 := hide h62
        have hR := hOP.a h62
        subst hR
        have HRR2 := HRR.out
        subst HRR2
        clear hS hOP hql hqv hps hrd hn hD h62 HP hc1 hc2 HRR
        go_wp2_with (first
          | (go_at_call 74; refine (blanks_os S0 HLT.out HG.out HL.out HD.out).mono ?_; rintro e w2 ⟨rfl, h2⟩; have S1 := hide h2; clear h2 S0)
          | (go_at_call 58; refine (take_os S1 (p := [62]) H62.out HLT.out HG.out).mono ?_; rintro e w3 ⟨rfl, h2⟩; have S := hide h2; have d0 := S.out.t.cell 0; have d1 := S.out.t.cell 1; have d2 := S.out.t.cell 2; have d3 := S.out.t.cell 3; have d4 := S.out.t.cell 4; simp at d0 d1 d2 d3 d4; have f0 := S.out.t.frozen 0; have f3 := S.out.t.frozen 3; have r0 := S.out.z.cell 0; have r1 := S.out.z.cell 1; have r2 := S.out.z.cell 2; have r3 := S.out.z.cell 3; have r4 := S.out.z.cell 4; simp at r0 r1 r2 r3 r4; have q0 := S.out.z.frozen 0; have q1 := S.out.z.frozen 1; have q2 := S.out.z.frozen 2; have q3 := S.out.z.frozen 3; have q4 := S.out.z.frozen 4; clear h2 S1))
        have hbw : b ≠ w.heap.size := by have := HLT.out; omega
        have hbt : b ≠ w1.heap.size := by have := HLT.out; have := S.out.ne; omega
        have hzt : w.heap.size ≠ w1.heap.size := by have := S.out.ne; omega
        have F0 := hide (S.out.t.set 0 (.int .i64 1))
        have F1 := hide (set5 (S.out.z.other hzt 0 (.int .i64 1)) (.int .i64 1) (.string x0) (.string ⟨#[]⟩) (.slice a n cap) (.int .i64 0))
        have F2 := hide ((S.out.ra.otherR hbt 0 (.int .i64 1)).other5 hbw (.int .i64 1) (.string x0) (.string ⟨#[]⟩) (.slice a n cap) (.int .i64 0))
        have F3 := hide ((S.out.bu.newR (Nat.le_of_lt S.out.ne) 0 (.int .i64 1)).new5 (Nat.le_refl _) (.int .i64 1) (.string x0) (.string ⟨#[]⟩) (.slice a n cap) (.int .i64 0))
        have F4 := hide ((S.out.rw'.set S.out.t (by decide) 0 (.int .i64 1)).set5 (S.out.z.other hzt 0 (.int .i64 1)) (.int .i64 1) (.string x0) (.string ⟨#[]⟩) (.slice a n cap) (.int .i64 0))
        unfold st5 at F1 F2 F3 F4
        generalize ((((((w3.setCell ⟨w1.heap.size, 0, none⟩ (.int .i64 1)).setCell ⟨w.heap.size, 0, none⟩ (.int .i64 1)).setCell ⟨w.heap.size, 1, none⟩ (.string x0)).setCell ⟨w.heap.size, 2, none⟩ (.string ⟨#[]⟩)).setCell ⟨w.heap.size, 3, none⟩ (.slice a n cap)).setCell ⟨w.heap.size, 4, none⟩ (.int .i64 0)) = wf at F1 F2 F3 F4 ⊢
        have g0 := F1.out.cell 0; have g1 := F1.out.cell 1; have g2 := F1.out.cell 2; have g3 := F1.out.cell 3; have g4 := F1.out.cell 4
        simp at g0 g1 g2 g3 g4
        exact bodyPost_ret (v := tkv 1 x0 ⟨#[]⟩ (.slice a n cap) 0) (by simp [results, Tryd.results60, go_sem, g0, g1, g2, g3, g4]) rfl ⟨_, by rw [HX.out], F4.out, F2.out, F3.out⟩
theorem catch_idle (p q r : Addr) (w : World) :
    CallsD Tryd.prog 56 #[.pointer (some p), .pointer (some q), .pointer (some r)] .returning w fun e u' w' => e = .returned (.tuple #[]) ∧ u' = .returning ∧ w' = w := by
  refine callsD_of_wpS Tryd.func56 rfl fun c₀ cs hu => ?_
  apply wpS_seq
  apply wpS_region
  simp [wpOpsS, go_sem, recoverD, hu, Tryd.ntmps56, Exit.thenS]
  refine wpS_cond (t := false) (by simp [Act.eval, Array.replicate]) ?_
  simp only [Bool.false_eq_true, if_false]
  refine wpS_of_wp (wp_skip ?_)
  cases c₀
  simp_all [bodyPostS, results, Tryd.results56]
abbrev caught (w : World) (B : Nat) : World := ((st5 w B (.int .i64 0) (.string ⟨#[]⟩) (.string ⟨#[]⟩) (.slice none 0 0) (.int .i64 0)).setCell ⟨B + 1, 0, none⟩ (.int .i64 0)).setCell ⟨B + 1 + 1, 0, none⟩ (.bool false)
theorem catch_thrown (B : Nat) (w : World) (x0 x1 x2 x3 x4 y0 z0 : Value) (u : TypeId) (pv : Value) (hk : Blk w B #[x0, x1, x2, x3, x4] 45) (he : Blk w (B + 1) #[y0] 3) (ho : Blk w (B + 1 + 1) #[z0] 4) :
    CallsD Tryd.prog 56 #[.pointer (some ⟨B, 0, none⟩), .pointer (some ⟨B + 1, 0, none⟩), .pointer (some ⟨B + 1 + 1, 0, none⟩)] (.panicking [{ v := .iface u pv, recovered := false }]) w fun e u' w' =>
      e = .returned (.tuple #[]) ∧ u' = .panicking [{ v := .iface u pv, recovered := true }] ∧ w' = caught w B := by
  have r0 := hk.cell 0; have r1 := hk.cell 1; have r2 := hk.cell 2; have r3 := hk.cell 3; have r4 := hk.cell 4
  have q0 := hk.frozen 0; have q1 := hk.frozen 1; have q2 := hk.frozen 2; have q3 := hk.frozen 3; have q4 := hk.frozen 4
  have c1 := he.cell 0
  have f1 := he.frozen 0
  have c2 := ho.cell 0
  have f2 := ho.frozen 0
  simp at r0 r1 r2 r3 r4 c1 c2
  refine callsD_of_wpS Tryd.func56 rfl fun c₀ cs hu => ?_
  apply wpS_seq
  apply wpS_region
  simp [wpOpsS, go_sem, recoverD, hu, Tryd.ntmps56, Exit.thenS]
  refine wpS_cond (t := true) (by simp [Act.eval, Array.replicate]) ?_
  simp only [if_true]
  apply wpS_region
  simp [wpOpsS, go_sem, r0, r1, r2, r3, r4, q0, q1, q2, q3, q4, c1, f1, c2, f2, bodyPostS, results, Tryd.results56]
structure TZ (w : World) (cur : World) : Prop where
  t : Blk cur w.heap.size zt 45
  z : Blk cur (w.heap.size + 1) #[.int .i64 0] 3
  o : Blk cur (w.heap.size + 1 + 1) #[.bool false] 4
  be : Below w.heap.size w cur
structure TS (w : World) (cur : World) (l : List UInt8) : Prop extends TZ w cur where
  ra : RA cur (w.heap.size + 1 + 1 + 1) l
  mx : MX cur
theorem TZ.but {w cur cur' : World} (h : TZ w cur) (hb : But (w.heap.size + 1 + 1 + 1) cur cur') : TZ w cur' :=
  ⟨h.t.but hb (by omega), h.z.but hb (by omega), h.o.but hb (by omega), hb.below h.be (by omega) h.be.size⟩
theorem TS.but {w cur cur' : World} {l l' : List UInt8} (h : TS w cur l) (hb : But (w.heap.size + 1 + 1 + 1) cur cur') (hr : RA cur' (w.heap.size + 1 + 1 + 1) l') (hg : lays145_ren.g 1 < w.heap.size) : TS w cur' l' :=
  ⟨h.toTZ.but hb, hr, h.mx.but hb (by omega)⟩
theorem TS.new (w : World) (s : ByteArray) (hm : MX w) : TS w ((((w.alloc (.cells zt 45)).alloc (.cells #[.int .i64 0] 3)).alloc (.cells #[.bool false] 4)).alloc (.cells #[.string s] 96)) s.data.toList := by
  have hal : ∀ (u : World) (o : Obj), Below u.heap.size u (u.alloc o) := fun u o => (Below.refl _ _).alloc (Nat.le_refl _) _
  have e1 : (w.alloc (.cells zt 45)).heap.size = w.heap.size + 1 := by simp
  have e2 : ((w.alloc (.cells zt 45)).alloc (.cells #[.int .i64 0] 3)).heap.size = w.heap.size + 1 + 1 := by simp
  have e3 : (((w.alloc (.cells zt 45)).alloc (.cells #[.int .i64 0] 3)).alloc (.cells #[.bool false] 4)).heap.size = w.heap.size + 1 + 1 + 1 := by simp
  have b0 := Blk.new w zt 45
  have b1 := Blk.new (w.alloc (.cells zt 45)) #[.int .i64 0] 3
  rw [e1] at b1
  have b2 := Blk.new ((w.alloc (.cells zt 45)).alloc (.cells #[.int .i64 0] 3)) #[.bool false] 4
  rw [e2] at b2
  have b3 := Blk.new (((w.alloc (.cells zt 45)).alloc (.cells #[.int .i64 0] 3)).alloc (.cells #[.bool false] 4)) #[.string s] 96
  rw [e3] at b3
  have hbe : Below w.heap.size w ((((w.alloc (.cells zt 45)).alloc (.cells #[.int .i64 0] 3)).alloc (.cells #[.bool false] 4)).alloc (.cells #[.string s] 96)) :=
    ((((Below.refl _ _).alloc (Nat.le_refl _) _).alloc (by rw [e1]; omega) _).alloc (by rw [e2]; omega) _).alloc (by rw [e3]; omega) _
  exact ⟨⟨((b0.below (hal _ _)).below (hal _ _)).below (hal _ _), (b1.below (hal _ _)).below (hal _ _), b2.below (hal _ _), hbe⟩, b3, hm.below hbe⟩
theorem take_ts {w cur : World} {l p : List UInt8} {t : Bool} (S : Hid (TS w cur l)) (ht : hp p l = t) (hg : lays145_ren.g 1 < w.heap.size) :
    Calls Tryd.prog 58 #[.pointer (some ⟨w.heap.size + 1 + 1 + 1, 0, none⟩), .string ⟨p.toArray⟩] cur fun e w' => e = .returned (.bool t) ∧ TS w w' (tp p l) :=
  (take_any _ l p cur S.out.ra).mono fun e w' ⟨h1, h2⟩ => ⟨by rw [h1, ht], by rw [h2]; exact S.out.but (But.setCell _ _ _ _) (S.out.ra.set _) hg⟩
theorem take_tsf {w cur : World} {l p : List UInt8} (S : Hid (TS w cur l)) (ht : hp p l = false) (hg : lays145_ren.g 1 < w.heap.size) :
    Calls Tryd.prog 58 #[.pointer (some ⟨w.heap.size + 1 + 1 + 1, 0, none⟩), .string ⟨p.toArray⟩] cur fun e w' => e = .returned (.bool false) ∧ TS w w' l :=
  (take_ts S ht hg).mono fun e w' ⟨h1, h2⟩ => ⟨h1, by rw [tp_f ht] at h2; exact h2⟩
def TgR (w : World) (n : Nat) (R : Option (Int × List UInt8 × List At × List UInt8)) (e : Ending) (w' : World) : Prop := match R with
  | none => e = .returned (.tuple #[.agg zt, .int .i64 0, .bool false]) ∧ Below w.heap.size w w'
  | some (k, x, ps, r) => ∃ v, e = .returned (.tuple #[tkv k ⟨x.toArray⟩ ⟨#[]⟩ v 0, .int .i64 ((n - r.length : Nat) : Int), .bool true]) ∧ ARow w' w.heap.size v ps ∧ Below w.heap.size w w'
theorem caught_cells {w cur : World} (h : TZ w cur) : Below w.heap.size w (caught cur w.heap.size) ∧
    (caught cur w.heap.size).cell? ⟨w.heap.size, 0, none⟩ = some (.int .i64 0) ∧ (caught cur w.heap.size).cell? ⟨w.heap.size, 1, none⟩ = some (.string ⟨#[]⟩) ∧ (caught cur w.heap.size).cell? ⟨w.heap.size, 2, none⟩ = some (.string ⟨#[]⟩) ∧ (caught cur w.heap.size).cell? ⟨w.heap.size, 3, none⟩ = some (.slice none 0 0) ∧ (caught cur w.heap.size).cell? ⟨w.heap.size, 4, none⟩ = some (.int .i64 0) ∧
    (caught cur w.heap.size).cell? ⟨w.heap.size + 1, 0, none⟩ = some (.int .i64 0) ∧ (caught cur w.heap.size).cell? ⟨w.heap.size + 1 + 1, 0, none⟩ = some (.bool false) := by
  have S : Hid (TZ w cur) := hide h
  have FB := hide (((((((S.out.be.setCell (p := ⟨w.heap.size, 0, none⟩) (by simp <;> omega) (.int .i64 0)).setCell (p := ⟨w.heap.size, 1, none⟩) (by simp <;> omega) (.string ⟨#[]⟩)).setCell (p := ⟨w.heap.size, 2, none⟩) (by simp <;> omega) (.string ⟨#[]⟩)).setCell (p := ⟨w.heap.size, 3, none⟩) (by simp <;> omega) (.slice none 0 0)).setCell (p := ⟨w.heap.size, 4, none⟩) (by simp <;> omega) (.int .i64 0)).setCell (p := ⟨w.heap.size + 1, 0, none⟩) (by simp <;> omega) (.int .i64 0)).setCell (p := ⟨w.heap.size + 1 + 1, 0, none⟩) (by simp <;> omega) (.bool false))
  have F0 := hide (((set5 S.out.t (.int .i64 0) (.string ⟨#[]⟩) (.string ⟨#[]⟩) (.slice none 0 0) (.int .i64 0)).other (b' := w.heap.size + 1) (by omega) 0 (.int .i64 0)).other (b' := w.heap.size + 1 + 1) (by omega) 0 (.bool false))
  have F1 := hide (((((((S.out.z.other (b' := w.heap.size) (by omega) 0 (.int .i64 0)).other (b' := w.heap.size) (by omega) 1 (.string ⟨#[]⟩)).other (b' := w.heap.size) (by omega) 2 (.string ⟨#[]⟩)).other (b' := w.heap.size) (by omega) 3 (.slice none 0 0)).other (b' := w.heap.size) (by omega) 4 (.int .i64 0)).set 0 (.int .i64 0)).other (b' := w.heap.size + 1 + 1) (by omega) 0 (.bool false))
  have F2 := hide (((((((S.out.o.other (b' := w.heap.size) (by omega) 0 (.int .i64 0)).other (b' := w.heap.size) (by omega) 1 (.string ⟨#[]⟩)).other (b' := w.heap.size) (by omega) 2 (.string ⟨#[]⟩)).other (b' := w.heap.size) (by omega) 3 (.slice none 0 0)).other (b' := w.heap.size) (by omega) 4 (.int .i64 0)).other (b' := w.heap.size + 1) (by omega) 0 (.int .i64 0)).set 0 (.bool false))
  refine ⟨FB.out, ?_, ?_, ?_, ?_, ?_, ?_, ?_⟩
  · simpa using F0.out.cell 0
  · simpa using F0.out.cell 1
  · simpa using F0.out.cell 2
  · simpa using F0.out.cell 3
  · simpa using F0.out.cell 4
  · simpa using F1.out.cell 0
  · simpa using F2.out.cell 0
theorem closing_no {w cur : World} {l : List UInt8} (S : Hid (TS w cur l)) (hl : l.length ≤ 1048576) (hc : clo l = none) :
    Calls Tryd.prog 59 #[.pointer (some ⟨w.heap.size + 1 + 1 + 1, 0, none⟩)] cur fun e w' => e = thrown ∧ TZ w w' := by
  have C := closing_any _ l cur S.out.ra hl
  rw [hc] at C
  exact C.mono fun e w' ⟨h1, h2⟩ => ⟨h1, S.out.toTZ.but h2⟩
theorem closing_yes {w cur : World} {l x r : List UInt8} (S : Hid (TS w cur l)) (hg : lays145_ren.g 1 < w.heap.size) (hl : l.length ≤ 1048576) (hc : clo l = some (x, r)) :
    Calls Tryd.prog 59 #[.pointer (some ⟨w.heap.size + 1 + 1 + 1, 0, none⟩)] cur fun e w' => e = .returned (tkv 2 ⟨x.toArray⟩ ⟨#[]⟩ (.slice none 0 0) 0) ∧ TS w w' r := by
  have C := closing_any _ l cur S.out.ra hl
  rw [hc] at C
  exact C.mono fun e w' ⟨h1, h2, h3⟩ => ⟨h1, S.out.but h3 h2 hg⟩
theorem opening_no {w cur : World} {l : List UInt8} (S : Hid (TS w cur l)) (hg : lays145_ren.g 1 < w.heap.size) (hl : l.length ≤ 1048576) (hv : Vt l) (hc : op l = none) :
    Calls Tryd.prog 60 #[.pointer (some ⟨w.heap.size + 1 + 1 + 1, 0, none⟩)] cur fun e w' => e = thrown ∧ TZ w w' := by
  have C := opening_any _ l cur S.out.ra S.out.mx hl hv (by omega)
  rw [hc] at C
  exact C.mono fun e w' ⟨h1, h2⟩ => ⟨h1, S.out.toTZ.but h2⟩
theorem ARow.lower {w : World} {B B' : Nat} {v : Value} {ps : List At} (h : ARow w B v ps) (hB : B' ≤ B) : ARow w B' v ps := by
  obtain ⟨h1, h2 | ⟨g, cap, cur, hv, hg, hh, hr⟩⟩ := h
  · exact ⟨h1, Or.inl h2⟩
  · exact ⟨h1, Or.inr ⟨g, cap, cur, hv, Nat.le_trans hB hg, hh, hr⟩⟩
theorem opening_yes {w cur : World} {l x r : List UInt8} {k : Int} {ps : List At} (S : Hid (TS w cur l)) (hg : lays145_ren.g 1 < w.heap.size) (hl : l.length ≤ 1048576) (hv : Vt l) (hc : op l = some (k, x, ps, r)) :
    Calls Tryd.prog 60 #[.pointer (some ⟨w.heap.size + 1 + 1 + 1, 0, none⟩)] cur fun e w' => ∃ v, e = .returned (tkv k ⟨x.toArray⟩ ⟨#[]⟩ v 0) ∧ ARow w' w.heap.size v ps ∧ TS w w' r := by
  have C := opening_any _ l cur S.out.ra S.out.mx hl hv (by omega)
  rw [hc] at C
  exact C.mono fun e w' ⟨v, h1, h2, h3, h4⟩ => ⟨v, h1, h2.lower S.out.be.size, S.out.but h4 h3 hg⟩
theorem Blk.other5 {w : World} {b c : Nat} {cs : Array Value} {t : TypeId} (h : Blk w b cs t) (hbw : b ≠ c) (v0 v1 v2 v3 v4 : Value) : Blk (st5 w c v0 v1 v2 v3 v4) b cs t := ((((h.other hbw 0 _).other hbw 1 _).other hbw 2 _).other hbw 3 _).other hbw 4 _
theorem below5 {B c : Nat} {w w' : World} (h : Below B w w') (hc : B ≤ c) (v0 v1 v2 v3 v4 : Value) : Below B w (st5 w' c v0 v1 v2 v3 v4) :=
  ((((h.setCell (p := ⟨c, 0, none⟩) hc v0).setCell (p := ⟨c, 1, none⟩) hc v1).setCell (p := ⟨c, 2, none⟩) hc v2).setCell (p := ⟨c, 3, none⟩) hc v3).setCell (p := ⟨c, 4, none⟩) hc v4
structure TF (w cur : World) (k : Int) (x : ByteArray) (v : Value) (ps : List At) : Prop where
  t : Blk cur w.heap.size #[.int .i64 k, .string x, .string ⟨#[]⟩, v, .int .i64 0] 45
  z : ∃ n, Blk cur (w.heap.size + 1) #[.int .i64 n] 3
  o : ∃ b, Blk cur (w.heap.size + 1 + 1) #[.bool b] 4
  be : Below w.heap.size w cur
  ro : ARow cur w.heap.size v ps
theorem TF.st {w cur : World} {k : Int} {x : ByteArray} {v : Value} {ps : List At} {x0 x1 x2 x3 x4 : Value} (h0 : Blk cur w.heap.size #[x0, x1, x2, x3, x4] 45) (hz : ∃ n, Blk cur (w.heap.size + 1) #[.int .i64 n] 3) (ho : ∃ b, Blk cur (w.heap.size + 1 + 1) #[.bool b] 4) (hb : Below w.heap.size w cur) (hr : ARow cur w.heap.size v ps) :
    TF w (st5 cur w.heap.size (.int .i64 k) (.string x) (.string ⟨#[]⟩) v (.int .i64 0)) k x v ps := by
  obtain ⟨n, hz⟩ := hz
  obtain ⟨b, ho⟩ := ho
  exact ⟨set5 h0 _ _ _ _ _, ⟨n, hz.other5 (by omega) _ _ _ _ _⟩, ⟨b, ho.other5 (by omega) _ _ _ _ _⟩, below5 hb (Nat.le_refl _) _ _ _ _ _, hr.set5 h0 _ _ _ _ _⟩
theorem TF.end' {w cur : World} {k : Int} {x : ByteArray} {v : Value} {ps : List At} (h : TF w cur k x v ps) (n : Int) :
    Below w.heap.size w (((st5 cur w.heap.size (.int .i64 k) (.string x) (.string ⟨#[]⟩) v (.int .i64 0)).setCell ⟨w.heap.size + 1, 0, none⟩ (.int .i64 n)).setCell ⟨w.heap.size + 1 + 1, 0, none⟩ (.bool true)).drew ∧
    ARow (((st5 cur w.heap.size (.int .i64 k) (.string x) (.string ⟨#[]⟩) v (.int .i64 0)).setCell ⟨w.heap.size + 1, 0, none⟩ (.int .i64 n)).setCell ⟨w.heap.size + 1 + 1, 0, none⟩ (.bool true)).drew w.heap.size v ps ∧
    Blk (((st5 cur w.heap.size (.int .i64 k) (.string x) (.string ⟨#[]⟩) v (.int .i64 0)).setCell ⟨w.heap.size + 1, 0, none⟩ (.int .i64 n)).setCell ⟨w.heap.size + 1 + 1, 0, none⟩ (.bool true)).drew w.heap.size #[.int .i64 k, .string x, .string ⟨#[]⟩, v, .int .i64 0] 45 ∧
    Blk (((st5 cur w.heap.size (.int .i64 k) (.string x) (.string ⟨#[]⟩) v (.int .i64 0)).setCell ⟨w.heap.size + 1, 0, none⟩ (.int .i64 n)).setCell ⟨w.heap.size + 1 + 1, 0, none⟩ (.bool true)).drew (w.heap.size + 1) #[.int .i64 n] 3 ∧
    Blk (((st5 cur w.heap.size (.int .i64 k) (.string x) (.string ⟨#[]⟩) v (.int .i64 0)).setCell ⟨w.heap.size + 1, 0, none⟩ (.int .i64 n)).setCell ⟨w.heap.size + 1 + 1, 0, none⟩ (.bool true)).drew (w.heap.size + 1 + 1) #[.bool true] 4 := by
  have f := TF.st (k := k) (x := x) h.t h.z h.o h.be h.ro
  generalize st5 cur w.heap.size (.int .i64 k) (.string x) (.string ⟨#[]⟩) v (.int .i64 0) = u at f ⊢
  obtain ⟨a, z⟩ := f.z
  obtain ⟨b, o⟩ := f.o
  have z2 := z.set 0 (.int .i64 n)
  have o2 := o.other (b' := w.heap.size + 1) (by omega) 0 (.int .i64 n)
  exact ⟨((f.be.setCell (p := ⟨w.heap.size + 1, 0, none⟩) (by simp) (.int .i64 n)).setCell (p := ⟨w.heap.size + 1 + 1, 0, none⟩) (by simp <;> omega) (.bool true)).drew, (f.ro.set z (by decide) 0 (.int .i64 n)).set o2 (by decide) 0 (.bool true), (f.t.other (by omega) 0 _).other (by omega) 0 _, z2.other (by omega) 0 _, o2.set 0 (.bool true)⟩
set_option maxHeartbeats 4000000 in
theorem tag_any (s : ByteArray) (w : World) (hm : MX w) (hs : s.size ≤ 1048576) (hv : Vt s.data.toList) :
    Calls Tryd.prog 40 #[.string s] w (TgR w s.size (tagV s.data.toList)) := by
  have hmf : ∀ (fn : Fn) (first cap : Array Value) (w : World), (Instr.makeFunc fn first cap).run Tryd.prog w = .ok (.func fn first cap) w := fun _ _ _ _ => rfl
  have hgl : lays145_ren.g 1 < w.heap.size := by obtain ⟨m, hm⟩ := hm; exact cell_lt' hm
  have hl : s.data.toList.length = s.size := size_l s
  have hs' : (s.size : Int) ≤ 1048576 := by omega
  have S0 := hide (TS.new w s hm)
  have HG := hide hgl
  obtain ⟨V, hV⟩ : ∃ V, ((((w.alloc (.cells zt 45)).alloc (.cells #[.int .i64 0] 3)).alloc (.cells #[.bool false] 4)).alloc (.cells #[.string s] 96)) = V := ⟨_, rfl⟩
  rw [hV] at S0
  have hsuf := fun k x ps r => tagV_suf (l := s.data.toList) (k := k) (x := x) (qs := ps) (r := r)
  have hlen := fun k x ps r => tagV_len (l := s.data.toList) (k := k) (x := x) (qs := ps) (r := r)
  unfold tagV at *
  generalize hL : s.data.toList = l at *
  have HL := hide hl
  have HV := hide hv
  cases h60 : hp [60] l
  · rw [if_neg (by simp)]
    have H60 := hide h60
    clear hm hgl hv h60 hL hsuf hlen
    go_enter_defers Tryd.func40, Tryd.ntmps40
    go_wp2_with (first
      | (go_at_call 58; refine (take_tsf S0 (p := [60]) H60.out HG.out).mono ?_; rintro e w3 ⟨rfl, h2⟩; have S := hide h2; clear h2)
      | (go_at_call 57; refine (must_f _).mono ?_; rintro e w4 ⟨rfl, h2⟩; subst h2; have SZ := S.out.toTZ))
    refine leaves_cons (f := 56) (args := #[.pointer (some ⟨w.heap.size, 0, none⟩), .pointer (some ⟨w.heap.size + 1, 0, none⟩), .pointer (some ⟨w.heap.size + 1 + 1, 0, none⟩)]) (by simp) (by simp [go_sem]) ?_
    refine (catch_thrown w.heap.size _ _ _ _ _ _ _ _ _ _ S.out.t S.out.z S.out.o).mono ?_
    rintro e u' w'' ⟨rfl, rfl, hw⟩
    obtain ⟨FB, f0, f1, f2, f3, f4, g0, g1⟩ := caught_cells SZ
    rw [← hw] at FB f0 f1 f2 f3 f4 g0 g1
    show Leaves _ _ _ _ [] (settle (.panicking [{ v := .iface 24 (.int .i64 170), recovered := true }])) w''
    rw [show settle (.panicking [{ v := .iface 24 (.int .i64 170), recovered := true }]) = .returning from rfl]
    refine ⟨.tuple #[.agg zt, .int .i64 0, .bool false], ?_, rfl, FB⟩
    simp [results, Tryd.results40, go_sem, f0, f1, f2, f3, f4, g0, g1]
  · rw [if_pos rfl]
    have H60 := hide h60
    have hv1 := vt_tp1 (by decide) hv h60
    have hl1 := tp_len [60] l
    cases h47 : hp [47] (tp [60] l)
    · rw [if_neg (by simp)]
      have H47 := hide h47
      have HLQ := hide (show (tp [60] l).length ≤ 1048576 by omega)
      have HVQ := hide hv1
      cases hc : op (tp [60] l) with
      | none =>
        have HC := hide hc
        clear hm hgl hv h60 hL hsuf hlen hv1 hl1 h47 hc
        go_enter_defers Tryd.func40, Tryd.ntmps40
        go_wp2_with (first
          | (go_at_call 58; refine (take_ts S0 (p := [60]) H60.out HG.out).mono ?_; rintro e w3 ⟨rfl, h2⟩; have S1 := hide h2; clear h2 S0)
          | (go_at_call 58; refine (take_tsf S1 (p := [47]) H47.out HG.out).mono ?_; rintro e w3 ⟨rfl, h2⟩; have S2 := hide h2; clear h2 S1)
          | (go_at_call 57; refine (must_t _).mono ?_; rintro e w4 ⟨rfl, h2⟩; subst h2)
          | (go_at_call 60; refine (opening_no S2 HG.out HLQ.out HVQ.out HC.out).mono ?_; rintro e w4 ⟨rfl, SZ⟩; have S := hide SZ))
        refine leaves_cons (f := 56) (args := #[.pointer (some ⟨w.heap.size, 0, none⟩), .pointer (some ⟨w.heap.size + 1, 0, none⟩), .pointer (some ⟨w.heap.size + 1 + 1, 0, none⟩)]) (by simp) (by simp [go_sem]) ?_
        refine (catch_thrown w.heap.size _ _ _ _ _ _ _ _ _ _ S.out.t S.out.z S.out.o).mono ?_
        rintro e u' w'' ⟨rfl, rfl, hw⟩
        obtain ⟨FB, f0, f1, f2, f3, f4, g0, g1⟩ := caught_cells SZ
        rw [← hw] at FB f0 f1 f2 f3 f4 g0 g1
        show Leaves _ _ _ _ [] (settle (.panicking [{ v := .iface 24 (.int .i64 170), recovered := true }])) w''
        rw [show settle (.panicking [{ v := .iface 24 (.int .i64 170), recovered := true }]) = .returning from rfl]
        refine ⟨.tuple #[.agg zt, .int .i64 0, .bool false], ?_, rfl, FB⟩
        simp [results, Tryd.results40, go_sem, f0, f1, f2, f3, f4, g0, g1]
      | some p =>
        obtain ⟨k, x, ps, r⟩ := p
        have HC := hide hc
        have hrl : r.length < l.length := by have := (op_len hc).1; omega
        obtain ⟨Q, hQ⟩ : ∃ Q : ByteArray, (⟨r.toArray⟩ : ByteArray) = Q := ⟨_, rfl⟩
        have hQs : Q.size = r.length := by rw [← hQ, size_m]
        have HQ := hide hQ
        obtain ⟨M, hM⟩ : ∃ M : Nat, s.size - r.length = M := ⟨_, rfl⟩
        have hsub : (s.size : Int) - (r.length : Int) = (M : Int) := by omega
        have HM := hide hM
        clear hm hgl hv h60 hL hsuf hlen hv1 hl1 h47 hc hQ hM
        go_enter_defers Tryd.func40, Tryd.ntmps40
        go_wp2_with (first
          | (go_at_call 58; refine (take_ts S0 (p := [60]) H60.out HG.out).mono ?_; rintro e w3 ⟨rfl, h2⟩; have S1 := hide h2; clear h2 S0)
          | (go_at_call 58; refine (take_tsf S1 (p := [47]) H47.out HG.out).mono ?_; rintro e w3 ⟨rfl, h2⟩; have S2 := hide h2; clear h2 S1)
          | (go_at_call 57; refine (must_t _).mono ?_; rintro e w4 ⟨rfl, h2⟩; subst h2)
          | (go_at_call 60; refine (opening_yes S2 HG.out HLQ.out HVQ.out HC.out).mono ?_; rintro e w4 ⟨av, rfl, hrow, h2⟩; obtain ⟨aa, ac, rfl, _⟩ := hrow.lst; have S := hide h2; have HROW := hide hrow; have r0 := S.out.t.cell 0; have r1 := S.out.t.cell 1; have r2 := S.out.t.cell 2; have r3 := S.out.t.cell 3; have r4 := S.out.t.cell 4; simp at r0 r1 r2 r3 r4; have q0 := S.out.t.frozen 0; have q1 := S.out.t.frozen 1; have q2 := S.out.t.frozen 2; have q3 := S.out.t.frozen 3; have q4 := S.out.t.frozen 4; have z0 := S.out.z.cell 0; have o0 := S.out.o.cell 0; simp at z0 o0; have z1 := S.out.z.frozen 0; have o1 := S.out.o.frozen 0; have e0 := S.out.ra.c0; rw [HQ.out] at e0; clear h2 hrow))
        have F := hide (TF.st (k := k) (x := ⟨x.toArray⟩) S.out.t ⟨_, S.out.z⟩ ⟨_, S.out.o⟩ S.out.be HROW.out)
        have hr2 := S.out.ra.other5 (c := w.heap.size) (by omega) (.int .i64 k) (.string ⟨x.toArray⟩) (.string ⟨#[]⟩) (.slice aa ps.length ac) (.int .i64 0)
        clear r0 r1 r2 r3 r4 q0 q1 q2 q3 q4 z0 o0 z1 o1 e0
        unfold st5 at F hr2
        generalize ((((w4.setCell ⟨w.heap.size, 0, none⟩ (.int .i64 k)).setCell ⟨w.heap.size, 1, none⟩ (.string ⟨x.toArray⟩)).setCell ⟨w.heap.size, 2, none⟩ (.string ⟨#[]⟩)).setCell ⟨w.heap.size, 3, none⟩ (.slice aa ps.length ac)).setCell ⟨w.heap.size, 4, none⟩ (.int .i64 0) = w5 at F hr2 ⊢
        have e0 := hr2.c0
        rw [HQ.out] at e0
        have r0 := F.out.t.cell 0; have r1 := F.out.t.cell 1; have r2 := F.out.t.cell 2; have r3 := F.out.t.cell 3; have r4 := F.out.t.cell 4
        simp at r0 r1 r2 r3 r4
        have q0 := F.out.t.frozen 0; have q1 := F.out.t.frozen 1; have q2 := F.out.t.frozen 2; have q3 := F.out.t.frozen 3; have q4 := F.out.t.frozen 4
        obtain ⟨zn, hz⟩ := F.out.z
        obtain ⟨ob, ho⟩ := F.out.o
        have z0 := hz.cell 0; have o0 := ho.cell 0
        simp at z0 o0
        have z1 := hz.frozen 0; have o1 := ho.frozen 0
        clear hr2 hz ho
        go_region
        obtain ⟨FB, FR, F0, F1, F2⟩ := F.out.end' (M : Int)
        unfold st5 at FB FR F0 F1 F2
        generalize ((((((((w5.setCell ⟨w.heap.size, 0, none⟩ (.int .i64 k)).setCell ⟨w.heap.size, 1, none⟩ (.string ⟨x.toArray⟩)).setCell ⟨w.heap.size, 2, none⟩ (.string ⟨#[]⟩)).setCell ⟨w.heap.size, 3, none⟩ (.slice aa ps.length ac)).setCell ⟨w.heap.size, 4, none⟩ (.int .i64 0)).setCell ⟨w.heap.size + 1, 0, none⟩ (.int .i64 (M : Int))).setCell ⟨w.heap.size + 1 + 1, 0, none⟩ (.bool true)).drew) = wf at FB FR F0 F1 F2 ⊢
        clear r0 r1 r2 r3 r4 q0 q1 q2 q3 q4 z0 o0 z1 o1 e0
        go_wp2_with fail
        refine leaves_cons (f := 56) (args := #[.pointer (some ⟨w.heap.size, 0, none⟩), .pointer (some ⟨w.heap.size + 1, 0, none⟩), .pointer (some ⟨w.heap.size + 1 + 1, 0, none⟩)]) (by simp) (by simp [go_sem]) ?_
        refine (catch_idle _ _ _ _).mono ?_
        rintro e u' w'' ⟨rfl, rfl, hw⟩
        subst w''
        have f0 := F0.cell 0; have f1 := F0.cell 1; have f2 := F0.cell 2; have f3 := F0.cell 3; have f4 := F0.cell 4; have g0 := F1.cell 0; have g1 := F2.cell 0
        simp at f0 f1 f2 f3 f4 g0 g1
        refine ⟨.tuple #[tkv k ⟨x.toArray⟩ ⟨#[]⟩ (.slice aa ps.length ac) 0, .int .i64 (M : Int), .bool true], ?_, ⟨_, by rw [HM.out], FR, FB⟩⟩
        simp [results, Tryd.results40, go_sem, f0, f1, f2, f3, f4, g0, g1]
    · rw [if_pos rfl]
      have H47 := hide h47
      have hl2 := tp_len [47] (tp [60] l)
      have HLQ := hide (show (tp [47] (tp [60] l)).length ≤ 1048576 by omega)
      cases hc : clo (tp [47] (tp [60] l)) with
      | none =>
        have HC := hide hc
        clear hm hgl hv h60 hL hsuf hlen hv1 hl1 h47 hc hl2
        go_enter_defers Tryd.func40, Tryd.ntmps40
        go_wp2_with (first
          | (go_at_call 58; refine (take_ts S0 (p := [60]) H60.out HG.out).mono ?_; rintro e w3 ⟨rfl, h2⟩; have S1 := hide h2; clear h2 S0)
          | (go_at_call 58; refine (take_ts S1 (p := [47]) H47.out HG.out).mono ?_; rintro e w3 ⟨rfl, h2⟩; have S2 := hide h2; clear h2 S1)
          | (go_at_call 57; refine (must_t _).mono ?_; rintro e w4 ⟨rfl, h2⟩; subst h2)
          | (go_at_call 59; refine (closing_no S2 HLQ.out HC.out).mono ?_; rintro e w4 ⟨rfl, SZ⟩; have S := hide SZ))
        refine leaves_cons (f := 56) (args := #[.pointer (some ⟨w.heap.size, 0, none⟩), .pointer (some ⟨w.heap.size + 1, 0, none⟩), .pointer (some ⟨w.heap.size + 1 + 1, 0, none⟩)]) (by simp) (by simp [go_sem]) ?_
        refine (catch_thrown w.heap.size _ _ _ _ _ _ _ _ _ _ S.out.t S.out.z S.out.o).mono ?_
        rintro e u' w'' ⟨rfl, rfl, hw⟩
        obtain ⟨FB, f0, f1, f2, f3, f4, g0, g1⟩ := caught_cells SZ
        rw [← hw] at FB f0 f1 f2 f3 f4 g0 g1
        show Leaves _ _ _ _ [] (settle (.panicking [{ v := .iface 24 (.int .i64 170), recovered := true }])) w''
        rw [show settle (.panicking [{ v := .iface 24 (.int .i64 170), recovered := true }]) = .returning from rfl]
        refine ⟨.tuple #[.agg zt, .int .i64 0, .bool false], ?_, rfl, FB⟩
        simp [results, Tryd.results40, go_sem, f0, f1, f2, f3, f4, g0, g1]
      | some p =>
        obtain ⟨x, r⟩ := p
        have HC := hide hc
        have hrl : r.length < l.length := by have := (clo_len hc).1; omega
        obtain ⟨Q, hQ⟩ : ∃ Q : ByteArray, (⟨r.toArray⟩ : ByteArray) = Q := ⟨_, rfl⟩
        have hQs : Q.size = r.length := by rw [← hQ, size_m]
        have HQ := hide hQ
        obtain ⟨M, hM⟩ : ∃ M : Nat, s.size - r.length = M := ⟨_, rfl⟩
        have hsub : (s.size : Int) - (r.length : Int) = (M : Int) := by omega
        have HM := hide hM
        clear hm hgl hv h60 hL hsuf hlen hv1 hl1 h47 hc hl2 hQ hM
        go_enter_defers Tryd.func40, Tryd.ntmps40
        go_wp2_with (first
          | (go_at_call 58; refine (take_ts S0 (p := [60]) H60.out HG.out).mono ?_; rintro e w3 ⟨rfl, h2⟩; have S1 := hide h2; clear h2 S0)
          | (go_at_call 58; refine (take_ts S1 (p := [47]) H47.out HG.out).mono ?_; rintro e w3 ⟨rfl, h2⟩; have S2 := hide h2; clear h2 S1)
          | (go_at_call 57; refine (must_t _).mono ?_; rintro e w4 ⟨rfl, h2⟩; subst h2)
          | (go_at_call 59; refine (closing_yes S2 HG.out HLQ.out HC.out).mono ?_; rintro e w4 ⟨rfl, h2⟩; have S := hide h2; have r0 := S.out.t.cell 0; have r1 := S.out.t.cell 1; have r2 := S.out.t.cell 2; have r3 := S.out.t.cell 3; have r4 := S.out.t.cell 4; simp at r0 r1 r2 r3 r4; have q0 := S.out.t.frozen 0; have q1 := S.out.t.frozen 1; have q2 := S.out.t.frozen 2; have q3 := S.out.t.frozen 3; have q4 := S.out.t.frozen 4; have z0 := S.out.z.cell 0; have o0 := S.out.o.cell 0; simp at z0 o0; have z1 := S.out.z.frozen 0; have o1 := S.out.o.frozen 0; have e0 := S.out.ra.c0; rw [HQ.out] at e0; clear h2))
        have F := hide (TF.st (k := 2) (x := ⟨x.toArray⟩) S.out.t ⟨_, S.out.z⟩ ⟨_, S.out.o⟩ S.out.be (ARow.nil w4 w.heap.size))
        have hr2 := S.out.ra.other5 (c := w.heap.size) (by omega) (.int .i64 2) (.string ⟨x.toArray⟩) (.string ⟨#[]⟩) (.slice none 0 0) (.int .i64 0)
        clear r0 r1 r2 r3 r4 q0 q1 q2 q3 q4 z0 o0 z1 o1 e0
        unfold st5 at F hr2
        generalize ((((w4.setCell ⟨w.heap.size, 0, none⟩ (.int .i64 2)).setCell ⟨w.heap.size, 1, none⟩ (.string ⟨x.toArray⟩)).setCell ⟨w.heap.size, 2, none⟩ (.string ⟨#[]⟩)).setCell ⟨w.heap.size, 3, none⟩ (.slice none 0 0)).setCell ⟨w.heap.size, 4, none⟩ (.int .i64 0) = w5 at F hr2 ⊢
        have e0 := hr2.c0
        rw [HQ.out] at e0
        have r0 := F.out.t.cell 0; have r1 := F.out.t.cell 1; have r2 := F.out.t.cell 2; have r3 := F.out.t.cell 3; have r4 := F.out.t.cell 4
        simp at r0 r1 r2 r3 r4
        have q0 := F.out.t.frozen 0; have q1 := F.out.t.frozen 1; have q2 := F.out.t.frozen 2; have q3 := F.out.t.frozen 3; have q4 := F.out.t.frozen 4
        obtain ⟨zn, hz⟩ := F.out.z
        obtain ⟨ob, ho⟩ := F.out.o
        have z0 := hz.cell 0; have o0 := ho.cell 0
        simp at z0 o0
        have z1 := hz.frozen 0; have o1 := ho.frozen 0
        clear hr2 hz ho
        go_region
        obtain ⟨FB, FR, F0, F1, F2⟩ := F.out.end' (M : Int)
        unfold st5 at FB FR F0 F1 F2
        generalize ((((((((w5.setCell ⟨w.heap.size, 0, none⟩ (.int .i64 2)).setCell ⟨w.heap.size, 1, none⟩ (.string ⟨x.toArray⟩)).setCell ⟨w.heap.size, 2, none⟩ (.string ⟨#[]⟩)).setCell ⟨w.heap.size, 3, none⟩ (.slice none 0 0)).setCell ⟨w.heap.size, 4, none⟩ (.int .i64 0)).setCell ⟨w.heap.size + 1, 0, none⟩ (.int .i64 (M : Int))).setCell ⟨w.heap.size + 1 + 1, 0, none⟩ (.bool true)).drew) = wf at FB FR F0 F1 F2 ⊢
        clear r0 r1 r2 r3 r4 q0 q1 q2 q3 q4 z0 o0 z1 o1 e0
        go_wp2_with fail
        refine leaves_cons (f := 56) (args := #[.pointer (some ⟨w.heap.size, 0, none⟩), .pointer (some ⟨w.heap.size + 1, 0, none⟩), .pointer (some ⟨w.heap.size + 1 + 1, 0, none⟩)]) (by simp) (by simp [go_sem]) ?_
        refine (catch_idle _ _ _ _).mono ?_
        rintro e u' w'' ⟨rfl, rfl, hw⟩
        subst w''
        have f0 := F0.cell 0; have f1 := F0.cell 1; have f2 := F0.cell 2; have f3 := F0.cell 3; have f4 := F0.cell 4; have g0 := F1.cell 0; have g1 := F2.cell 0
        simp at f0 f1 f2 f3 f4 g0 g1
        refine ⟨.tuple #[tkv 2 ⟨x.toArray⟩ ⟨#[]⟩ (.slice none 0 0) 0, .int .i64 (M : Int), .bool true], ?_, ⟨_, by rw [HM.out], FR, FB⟩⟩
        simp [results, Tryd.results40, go_sem, f0, f1, f2, f3, f4, g0, g1]
end Go.Proofs.YtpmdekhjodhdmaaDoor.K17
