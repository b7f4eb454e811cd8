/-
  Joined: K17Rl.
-/
import Derived.Test.YtpmdekhjodhdmaaDoorQ24
namespace Go.Proofs.YtpmdekhjodhdmaaDoor.K17
open Go.RowKit Go.Proofs.YtpmdekhjodhdmaaDoor
open Go.Lib
set_option linter.unusedVariables false
set_option linter.unusedSimpArgs false
set_option maxRecDepth 100000
def OPR (l : List UInt8) (ps : List At) (R : Option (Int × List At × List UInt8)) : Prop := ∃ f, l.length < f ∧ opRF f l ps = R
theorem OPR.unf {l : List UInt8} {ps : List At} {R : Option (Int × List At × List UInt8)} (h : OPR l ps R) : ∃ f, l.length ≤ f ∧ opRF (f + 1) l ps = R := by
  obtain ⟨f, h1, h2⟩ := h
  obtain ⟨g, rfl⟩ : ∃ g, f = g + 1 := ⟨f - 1, by omega⟩
  exact ⟨g, by omega, h2⟩
theorem OPR.a {l : List UInt8} {ps : List At} {R : Option (Int × List At × List UInt8)} (h : OPR l ps R) (h1 : hp [62] (bk l) = true) : R = some (1, ps, tp [62] (bk l)) := by
  obtain ⟨f, _, h⟩ := h.unf; rw [opRF, if_pos h1] at h; exact h.symm
theorem OPR.b {l : List UInt8} {ps : List At} {R : Option (Int × List At × List UInt8)} (h : OPR l ps R) (h1 : hp [62] (bk l) = false) (h2 : hp [47, 62] (bk l) = true) : R = some (3, ps, tp [47, 62] (bk l)) := by
  obtain ⟨f, _, h⟩ := h.unf; rw [opRF, if_neg (by rw [h1]; simp), if_pos h2] at h; exact h.symm
theorem OPR.c {l : List UInt8} {ps : List At} {R : Option (Int × List At × List UInt8)} (h : OPR l ps R) (h1 : hp [62] (bk l) = false) (h2 : hp [47, 62] (bk l) = false) (h3 : ¬ ((bk l).length < l.length ∧ ps.length < 16)) : R = none := by
  obtain ⟨f, _, h⟩ := h.unf; rw [opRF, if_neg (by rw [h1]; simp), if_neg (by rw [h2]; simp), if_neg h3] at h; exact h.symm
theorem OPR.d {l : List UInt8} {ps : List At} {R : Option (Int × List At × List UInt8)} (h : OPR l ps R) (h1 : hp [62] (bk l) = false) (h2 : hp [47, 62] (bk l) = false) (h4 : atR (bk l) = none) : R = none := by
  obtain ⟨f, _, h⟩ := h.unf; rw [opRF, if_neg (by rw [h1]; simp), if_neg (by rw [h2]; simp)] at h
  split at h
  · rw [h4] at h; exact h.symm
  · exact h.symm
theorem OPR.e {l x t r : List UInt8} {ps : List At} {R : Option (Int × List At × List UInt8)} (h : OPR l ps R) (h1 : hp [62] (bk l) = false) (h2 : hp [47, 62] (bk l) = false) (h3 : (bk l).length < l.length ∧ ps.length < 16) (h4 : atR (bk l) = some (x, t, r)) (h5 : nmd ps x = true) : R = none := by
  obtain ⟨f, _, h⟩ := h.unf; rw [opRF, if_neg (by rw [h1]; simp), if_neg (by rw [h2]; simp), if_pos h3, h4] at h
  simp only [h5, if_true] at h; exact h.symm
theorem OPR.f {l x t r : List UInt8} {ps : List At} {R : Option (Int × List At × List UInt8)} (h : OPR l ps R) (hv : Vt l) (h1 : hp [62] (bk l) = false) (h2 : hp [47, 62] (bk l) = false) (h3 : (bk l).length < l.length ∧ ps.length < 16) (h4 : atR (bk l) = some (x, t, r)) (h5 : nmd ps x = false) : OPR r (ps ++ [(x, t)]) R := by
  obtain ⟨f, hf, h⟩ := h.unf; rw [opRF, if_neg (by rw [h1]; simp), if_neg (by rw [h2]; simp), if_pos h3, h4] at h
  simp only [h5, Bool.false_eq_true, if_false] at h
  exact ⟨f, by have := (atR_str (vt_bk hv) h4).2.1; omega, h⟩
theorem at_hp2 (s : ByteArray) (n : Nat) (h : n < s.size) : hp [47, 62] (s.data.toList.drop n) = ((s[n] == 47) && hp [62] (s.data.toList.drop (n + 1))) := by
  have hd : s.data.toList.drop n = s[n] :: s.data.toList.drop (n + 1) := by
    rw [List.drop_eq_getElem_cons (by rw [size_l]; exact h)]; congr 1
  rw [hd]
  by_cases h47 : s[n] = 47
  · rw [h47]
    cases hh : hp [62] (s.data.toList.drop (n + 1)) with
    | true =>
      obtain ⟨r, hr, _⟩ := hp_cons hh
      rw [hr]; rfl
    | false =>
      cases hh2 : hp [47, 62] ((47 : UInt8) :: s.data.toList.drop (n + 1)) with
      | false => rfl
      | true =>
        obtain ⟨r, hr, hr2⟩ := hp_cons hh2
        injection hr with _ hr
        rw [hr, hr2] at hh
        exact absurd hh (by simp)
  · cases hh2 : hp [47, 62] (s[n] :: s.data.toList.drop (n + 1)) with
    | false => rw [show (s[n] == 47) = false by rw [beq_eq_false_iff_ne]; exact h47]; rfl
    | true =>
      obtain ⟨r, hr, hr2⟩ := hp_cons hh2
      injection hr with hr _
      exact absurd hr h47
theorem at_tp2 (s : ByteArray) (n : Nat) (h : hp [47, 62] (s.data.toList.drop n) = true) : s.data.toList.drop (n + 2) = tp [47, 62] (s.data.toList.drop n) := by
  unfold tp
  rw [if_pos h, List.drop_drop]; rfl
theorem atR_47 (r : List UInt8) : atR (47 :: r) = none := by
  have : nm (47 :: r) = none := by
    have e : (47 :: r).takeWhile nmB = [] := by rw [List.takeWhile_cons, show nmB 47 = false by decide]; rfl
    unfold nm
    rw [e, if_neg (by decide)]
  unfold atR
  rw [this]
section
variable {P : Program} {md : Region.Mode} {ops : Array Oper} {Q : Exit → Act → World → Prop} {S : World → Prop}
theorem takeW {i d : Nat} {oi : Oper} {v : Value} {fuel : Nat} {listed : Array Bool} {a : Act} {w : World} (hi : ops[i]? = some oi) (hd : oi.dst = some d)
    (hs : Region.noSelect ops = true) (hf : Region.free md ops listed i = true) (hr : (Region.ready md ops listed).contains i = true)
    (hQ : ∀ c a w, Q (.panic c) (a.put (some d) v) w → Q (.panic c) a w) (hw : Region.wanted oi (yielded ops a.tmps) = true) (hy : ∀ w, S w → (execOp a.eval oi).run P w = .ok (.value v) w) (hS : S w)
    (h : wpAnyH P md ops Q S fuel (listed.setIfInBounds i true) (a.put (some d) v) w) : wpAnyH P md ops Q S (fuel + 1) listed a w :=
  wpAnyH_take hi hs hf hr (by rw [hd]; exact hQ) (Or.inl ⟨hw, hy⟩) hS (by rw [hd]; exact h)
theorem takeN {i d : Nat} {oi : Oper} {fuel : Nat} {listed : Array Bool} {a : Act} {w : World} (hi : ops[i]? = some oi) (hd : oi.dst = some d)
    (hs : Region.noSelect ops = true) (hf : Region.free md ops listed i = true) (hr : (Region.ready md ops listed).contains i = true)
    (hQ : ∀ c a w, Q (.panic c) (a.put (some d) undef) w → Q (.panic c) a w) (hw : Region.wanted oi (yielded ops a.tmps) = false) (hS : S w)
    (h : wpAnyH P md ops Q S fuel (listed.setIfInBounds i true) (a.put (some d) undef) w) : wpAnyH P md ops Q S (fuel + 1) listed a w :=
  wpAnyH_take hi hs hf hr (by rw [hd]; exact hQ) (Or.inr ⟨hw, rfl⟩) hS (by rw [hd]; exact h)
end
theorem rl_app {w wz : World} {x : ByteArray} {v : Value} {ps : List At} {p : Int} (h0 : Blk wz w.heap.size #[.int .i64 0, .string ⟨#[]⟩, .string ⟨#[]⟩, .slice none 0 0, .int .i64 0] 45) (h1 : Blk wz (w.heap.size + 1) #[.int .i64 1, .string x, .string ⟨#[]⟩, v, .int .i64 p] 45) (hb : Below w.heap.size w wz) (hr : ARow wz w.heap.size v ps) (hl : ps.length ≤ 1000000) (y t : List UInt8) :
    ∃ a' n' c' w2, (Builtin.append_ #[43, 43] 43 #[v, .slice (some ⟨wz.heap.size, 0, none⟩) 1 1]).run Tryd.prog (wz.alloc (.cells #[.string ⟨y.toArray⟩, .string ⟨t.toArray⟩] 47)) = .ok (.slice a' n' c') w2 ∧ w2.cell? ⟨w.heap.size + 1, 3, none⟩ = some v ∧ w2.frozen? ⟨w.heap.size + 1, 3, none⟩ = false ∧ Blk (w2.setCell ⟨w.heap.size + 1, 3, none⟩ (.slice a' n' c')) w.heap.size #[.int .i64 0, .string ⟨#[]⟩, .string ⟨#[]⟩, .slice none 0 0, .int .i64 0] 45 ∧ Blk (w2.setCell ⟨w.heap.size + 1, 3, none⟩ (.slice a' n' c')) (w.heap.size + 1) #[.int .i64 1, .string x, .string ⟨#[]⟩, .slice a' n' c', .int .i64 p] 45 ∧ Below w.heap.size w (w2.setCell ⟨w.heap.size + 1, 3, none⟩ (.slice a' n' c')) ∧ ARow (w2.setCell ⟨w.heap.size + 1, 3, none⟩ (.slice a' n' c')) w.heap.size (.slice a' n' c') (ps ++ [(y, t)]) := by
  obtain ⟨v', w2, hr', hrow, hbel, hkc⟩ := app_at (y, t) wz.heap.size hr hb.size hl rfl
  have k0 : Blk w2 w.heap.size #[.int .i64 0, .string ⟨#[]⟩, .string ⟨#[]⟩, .slice none 0 0, .int .i64 0] 45 := hkc _ _ _ _ h0 (by decide)
  have k1 : Blk w2 (w.heap.size + 1) #[.int .i64 1, .string x, .string ⟨#[]⟩, v, .int .i64 p] 45 := hkc _ _ _ _ h1 (by decide)
  have c3 := k1.cell 3
  simp at c3
  have k2 := k1.set 3 v'
  simp at k2
  obtain ⟨a', c', hv', _⟩ := hrow.lst
  subst hv'
  exact ⟨a', _, c', w2, hr', c3, k1.frozen 3, k0.other (by omega) 3 _, k2, (hb.trans hbel).setCell (p := ⟨w.heap.size + 1, 3, none⟩) (by simp) _, hrow.set k1 (by decide) 3 _⟩
theorem al_tk {wr wb : World} {B : Nat} {cs ds : Array Value} {t u : TypeId} (h0 : Blk wr B cs t) (h1 : Blk wr (B + 1) ds u) (hb : Below wr.heap.size wr wb) (o : Obj) : Blk (wb.alloc o) B cs t ∧ Blk (wb.alloc o) (B + 1) ds u :=
  ⟨h0.below (hb.alloc hb.size o), h1.below (hb.alloc hb.size o)⟩
theorem suf_at {s : ByteArray} {p : Nat} {u r : List UInt8} (hp : p ≤ s.size) (h : s.data.toList.drop p = u ++ r) : s.data.toList.drop (s.size - r.length) = r ∧ s.size - r.length = p + u.length ∧ r.length ≤ s.size := by
  have hl := congrArg List.length h
  rw [List.length_drop, size_l, List.length_append] at hl
  have e : s.size - r.length = p + u.length := by omega
  exact ⟨by rw [e, ← List.drop_drop, h, List.drop_left' rfl], e, by omega⟩
set_option maxHeartbeats 8000000 in
theorem rtag_os (s : ByteArray) (p : Nat) (w : World) (x l1 : List UInt8) (hs : s.size ≤ 65536) (hp' : p + 1 ≤ s.size) (h47 : hp [47] (s.data.toList.drop (p + 1)) = false) (hn : nm (s.data.toList.drop (p + 1)) = some (x, l1)) (hv : Vt (s.data.toList.drop p)) (hv1 : Vt (s.data.toList.drop (p + 1))) :
    Calls Tryd.prog 23 #[.string s, .int .i64 (p : Int)] w (RtR w p s.size (s.data.toList.drop p) (match opRF (l1.length + 1) l1 [] with
      | none => none
      | some (k, ps, q) => some (k, x, ps, q))) := by
  have hs' : (s.size : Int) ≤ 65536 := by omega
  have CN := hide (fun w => rname_any s (p + 1) w (by omega) (by omega))
  have CB := hide (fun n w h => rblanks_any s n w (by omega) h)
  have CC := hide (fun a b w h1 h2 h3 => rcontrols_any s a b w hs h1 h2 h3)
  have CA := hide (fun n w h => rattr_any s n w hs h)
  have hnm := nmL_nm (s.data.toList.drop (p + 1))
  rw [hn] at hnm
  obtain ⟨n, hn1⟩ : ∃ n, nmL (s.data.toList.drop (p + 1)) = n := ⟨_, rfl⟩
  have hnl := nmL_le (s.data.toList.drop (p + 1))
  rw [List.length_drop, size_l] at hnl
  rw [hn1] at CN hnm hnl
  obtain ⟨p1, hp1⟩ : ∃ p1, p + 1 = p1 := ⟨_, rfl⟩
  obtain ⟨p2, hp2⟩ : ∃ p2, p + 1 = p2 := ⟨_, rfl⟩
  rw [hp2] at CN hnm hnl
  have e1 : (p : Int) + 1 = (p1 : Int) := by omega
  obtain rfl : p2 = p1 := by omega
  have hok : 1 ≤ n ∧ n ≤ 16 := by
    by_cases h : 1 ≤ n ∧ n ≤ 16
    · exact h
    · rw [if_neg h] at hnm; simp at hnm
  rw [if_pos hok] at hnm
  simp only [Option.some.injEq, Prod.mk.injEq] at hnm
  obtain ⟨hx, hl1⟩ := hnm
  obtain ⟨p3, hp3⟩ : ∃ p3, p2 + n = p3 := ⟨_, rfl⟩
  have e3 : (p2 : Int) + (n : Int) = (p3 : Int) := by omega
  rw [List.drop_drop, hp3] at hl1
  have o1 : ¬ (n : Int) < 1 := by omega
  have o2 : ¬ (16 : Int) < (n : Int) := by omega
  have o3 : (p2 : Int) ≤ (p3 : Int) := by omega
  have o4 : (p3 : Int) ≤ (s.size : Int) := by omega
  have o5 : (0 : Int) ≤ (p2 : Int) := by omega
  have hlt' : p2 < s.size := by omega
  have hlt : (p2 : Int) < (s.size : Int) := by omega
  have f47 : ((s[p2].toNat : Int) == 47) = false := by
    rw [show p + 1 = p2 from by omega, at_hp s p2 47 _ rfl hlt'] at h47
    rw [beq_eq_false_iff_ne] at h47 ⊢
    intro h; apply h47; apply UInt8.toNat_inj.1; show s[p2].toNat = 47; omega
  have h34 : p3 ≤ s.size := by omega
  have HL1 := hide hl1
  have hX : s.extract p2 p3 = ⟨x.toArray⟩ := by rw [str_eq, Lib.extract_data, mk_l, hx]; congr 1; omega
  obtain ⟨X, hXX⟩ : ∃ X : ByteArray, (⟨x.toArray⟩ : ByteArray) = X := ⟨_, rfl⟩
  rw [hXX] at hX
  have HX := hide hXX
  have HV := hide hv
  have hlv : Vt l1 := vt_nm hv1 hn
  have HLV := hide hlv
  obtain ⟨R0, hR0⟩ : ∃ R0, opRF (l1.length + 1) l1 [] = R0 := ⟨_, rfl⟩
  have HOP := hide (show OPR l1 [] R0 from ⟨_, Nat.lt_succ_self _, hR0⟩)
  rw [hR0]
  obtain ⟨RR, hRR⟩ : ∃ RR, (match R0 with
    | none => none
    | some (k, ps, q) => some (k, x, ps, q)) = RR := ⟨_, rfl⟩
  rw [hRR]
  have HRR := hide hRR
  obtain ⟨W0, W1, WB⟩ := two_tk w #[.int .i64 1, .string X, .string ⟨#[]⟩, .slice none 0 0, .int .i64 (p : Int)]
  have WS : ((w.alloc (.cells #[.int .i64 0, .string ⟨#[]⟩, .string ⟨#[]⟩, .slice none 0 0, .int .i64 0] 45)).alloc (.cells #[.int .i64 1, .string X, .string ⟨#[]⟩, .slice none 0 0, .int .i64 (p : Int)] 45)).heap.size = w.heap.size + 2 := by simp
  clear hn hn1 hx hl1 hv hv1 hlv hXX hR0 hRR hp1 hp3 h47 hp' hs hnl
  go_enter Tryd.func23, Tryd.ntmps23
  go_wp2_with (first
    | (go_at_call 43; refine (CN.out _).mono ?_; rintro e w1 ⟨rfl, hw⟩; subst hw))
  generalize ((w.alloc (.cells #[.int .i64 0, .string ⟨#[]⟩, .string ⟨#[]⟩, .slice none 0 0, .int .i64 0] 45)).alloc (.cells #[.int .i64 1, .string X, .string ⟨#[]⟩, .slice none 0 0, .int .i64 (p : Int)] 45)) = W at W0 W1 WB WS ⊢
  go_loopw [1] (fun va wr => ∃ (q : Nat) (ps : List At) (v : Value), va = .int .i64 (q : Int) ∧ Hid (q ≤ s.size ∧ p2 ≤ q ∧ Blk wr w.heap.size #[.int .i64 0, .string ⟨#[]⟩, .string ⟨#[]⟩, .slice none 0 0, .int .i64 0] 45 ∧ Blk wr (w.heap.size + 1) #[.int .i64 1, .string X, .string ⟨#[]⟩, v, .int .i64 (p : Int)] 45 ∧ Below w.heap.size w wr ∧ ARow wr w.heap.size v ps ∧ OPR (s.data.toList.drop q) ps R0 ∧ Vt (s.data.toList.drop q) ∧ ps.length ≤ 16)) (fun va _ => s.size - (RowKit.intOf va).toNat)
  case atStart => exact ⟨p3, [], _, rfl, hide ⟨h34, by omega, W0, W1, WB, ARow.nil _ _, by rw [← HL1.out]; exact HOP.out, by rw [← HL1.out]; exact HLV.out, by simp⟩⟩
  case round =>
    clear W0 W1 WB WS HOP HLV HL1
    obtain ⟨q, ps, v, rfl, HK⟩ := hrel
    obtain ⟨k1, k2, k3, k4, k5, k6, k7, k8, k9⟩ := HK.out
    obtain ⟨a, cap, rfl, _, hc1, hc2⟩ := k6.lst
    obtain ⟨m, hm⟩ : ∃ m, ps.length = m := ⟨_, rfl⟩
    rw [hm] at k4 k6 hc1
    have A0 := k4.cell 0; have A1 := k4.cell 1; have A2 := k4.cell 2; have A3 := k4.cell 3; have A4 := k4.cell 4
    simp at A0 A1 A2 A3 A4
    have F0 := k3.frozen 0; have F1 := k3.frozen 1; have F2 := k3.frozen 2; have F3 := k3.frozen 3; have F4 := k3.frozen 4
    have Z0 := k3.cell 0; have Z1 := k3.cell 1; have Z2 := k3.cell 2; have Z3 := k3.cell 3; have Z4 := k3.cell 4
    simp at Z0 Z1 Z2 Z3 Z4
    have HW0 := hide k3
    have HW1 := hide k4
    have HWB := hide k5
    have K6 := hide k6
    have HM := hide hm
    have CBq := hide (fun w => CB.out q w (by omega))
    obtain ⟨g1, g2, g3⟩ := bkP_le s.data.toList q (by rw [size_l]; omega)
    obtain ⟨p4, hp4⟩ : ∃ p4, bkP s.data.toList q = p4 := ⟨_, rfl⟩
    rw [hp4] at g1 g2 g3 CBq
    rw [size_l] at g2
    have g2' : (p4 : Int) ≤ (s.size : Int) := by omega
    clear hp4 CB hm
    by_cases c4 : p4 < s.size
    · have c4' : (p4 : Int) < (s.size : Int) := by omega
      have c4d : decide (s.size ≤ p4) = false := decide_eq_false (by omega)
      by_cases e62 : s[p4] = 62
      · obtain ⟨H, hH⟩ : ∃ H, hc ((s.data.toList.drop p).take (p4 - p)) = H := ⟨_, rfl⟩
        have h62 : (s.data.toList.drop p)[p4 - p]? = some 62 := by
          rw [List.getElem?_drop, show p + (p4 - p) = p4 by omega, List.getElem?_eq_getElem (by rw [size_l]; exact c4)]
          exact congrArg some e62
        have hvt := (HV.out.cut (p4 - p) (fun b hb => by rw [h62] at hb; injection hb with hb; rw [← hb]; decide)).1
        have CX := fun w => CC.out p p4 w (by omega) (by omega) hvt
        rw [hH] at CX
        have CCX := hide CX
        have hT := at_tp s p4 62 _ rfl (by rw [at_hp s p4 62 _ rfl c4, e62]; rfl)
        have hR := k7.a (by rw [← g3, at_hp s p4 62 _ rfl c4, e62]; rfl)
        rw [← g3, ← hT] at hR
        subst hR
        have hr := HRR.out
        subst hr
        have HHC : Hid (HC (s.data.toList.drop p) (s.data.toList.drop (p4 + 1)) = H) := hide (by
          unfold HC
          rw [List.length_drop, List.length_drop, size_l, show s.size - p - (s.size - (p4 + 1)) = (p4 - p) + 1 by omega, List.take_add_one, h62, hc_app hvt, hH]
          show (H || hc [62]) = H
          rw [show hc [62] = false by decide, Bool.or_false])
        have f62 : ((s[p4].toNat : Int) == 62) = true := by rw [e62]; rfl
        obtain ⟨p5, hp5⟩ : ∃ p5, p4 + 1 = p5 := ⟨_, rfl⟩
        have e5 : (p4 : Int) + 1 = (p5 : Int) := by omega
        have e6 : IntKind.i64.wrap (p5 : Int) = (p5 : Int) := by rw [IntKind.wrap_i64]; omega
        have e5' : IntKind.i64.wrap ((p4 : Int) + 1) = (p5 : Int) := by rw [IntKind.wrap_i64]; omega
        have HVV := hide (Below.refl wr.heap.size wr)
        have KT := hide (show ∀ u, Below wr.heap.size wr u → (u.cell? ⟨w.heap.size + 1, 0, none⟩ = some (.int .i64 1) ∧ u.cell? ⟨w.heap.size + 1, 1, none⟩ = some (.string X) ∧ u.cell? ⟨w.heap.size + 1, 2, none⟩ = some (.string ⟨#[]⟩) ∧ u.cell? ⟨w.heap.size + 1, 3, none⟩ = some (.slice a m cap) ∧ u.cell? ⟨w.heap.size + 1, 4, none⟩ = some (.int .i64 (p : Int)) ∧ u.cell? ⟨w.heap.size, 0, none⟩ = some (.int .i64 0) ∧ u.cell? ⟨w.heap.size, 1, none⟩ = some (.string ⟨#[]⟩) ∧ u.cell? ⟨w.heap.size, 2, none⟩ = some (.string ⟨#[]⟩) ∧ u.cell? ⟨w.heap.size, 3, none⟩ = some (.slice none 0 0) ∧ u.cell? ⟨w.heap.size, 4, none⟩ = some (.int .i64 0) ∧ u.frozen? ⟨w.heap.size, 0, none⟩ = false ∧ u.frozen? ⟨w.heap.size, 1, none⟩ = false ∧ u.frozen? ⟨w.heap.size, 2, none⟩ = false ∧ u.frozen? ⟨w.heap.size, 3, none⟩ = false ∧ u.frozen? ⟨w.heap.size, 4, none⟩ = false) from fun u hu => by
          have k0 := HW0.out.below hu
          have k1 := HW1.out.below hu
          exact ⟨by simpa using k1.cell 0, by simpa using k1.cell 1, by simpa using k1.cell 2, by simpa using k1.cell 3, by simpa using k1.cell 4, by simpa using k0.cell 0, by simpa using k0.cell 1, by simpa using k0.cell 2, by simpa using k0.cell 3, by simpa using k0.cell 4, k0.frozen 0, k0.frozen 1, k0.frozen 2, k0.frozen 3, k0.frozen 4⟩)
        clear hT CX hvt h62 hH HRR e62 CC k3 k4 k5 k6 k7 k8 g3 HK
        go_upto_region 16 with (first
          | (go_at_call 44; refine (CBq.out _).mono ?_; rintro e w1 ⟨rfl, hw⟩; subst hw))
        have KB := hide (show ∀ u, Blk u (w.heap.size + 1) #[.int .i64 1, .string X, .string ⟨#[]⟩, .slice a m cap, .int .i64 (p : Int)] 45 → (u.cell? ⟨w.heap.size + 1, 0, none⟩ = some (.int .i64 1) ∧ u.cell? ⟨w.heap.size + 1, 1, none⟩ = some (.string X) ∧ u.cell? ⟨w.heap.size + 1, 2, none⟩ = some (.string ⟨#[]⟩) ∧ u.cell? ⟨w.heap.size + 1, 3, none⟩ = some (.slice a m cap) ∧ u.cell? ⟨w.heap.size + 1, 4, none⟩ = some (.int .i64 (p : Int))) from fun u k1 => ⟨by simpa using k1.cell 0, by simpa using k1.cell 1, by simpa using k1.cell 2, by simpa using k1.cell 3, by simpa using k1.cell 4⟩)
        have NE := hide (show w.heap.size + 1 ≠ w.heap.size by omega)
        go_region_held3 (fun u => u.cell? ⟨w.heap.size + 1, 0, none⟩ = some (.int .i64 1) ∧ u.cell? ⟨w.heap.size + 1, 1, none⟩ = some (.string X) ∧ u.cell? ⟨w.heap.size + 1, 2, none⟩ = some (.string ⟨#[]⟩) ∧ u.cell? ⟨w.heap.size + 1, 3, none⟩ = some (.slice a m cap) ∧ u.cell? ⟨w.heap.size + 1, 4, none⟩ = some (.int .i64 (p : Int))) (exact KB.out _ (by repeat (first | (with_reducible exact K1.out) | (with_reducible exact HW1.out) | (with_reducible refine Blk.other ?_ NE.out _ _) | (with_reducible refine bdr ?_)))) ((go_at_call 45; refine (CCX.out _).mono ?_; rintro e wy ⟨rfl, hy⟩; replace HVV := hide (below_d HVV.out hy rfl rfl rfl rfl); clear hy; have k1 := HW1.out.below HVV.out; have k0 := HW0.out.below HVV.out; have a0 := k1.cell 0; have a1 := k1.cell 1; have a2 := k1.cell 2; have a3 := k1.cell 3; have a4 := k1.cell 4; have z0 := k0.cell 0; have z1 := k0.cell 1; have z2 := k0.cell 2; have z3 := k0.cell 3; have z4 := k0.cell 4; simp at a0 a1 a2 a3 a4 z0 z1 z2 z3 z4; have f0 := k0.frozen 0; have f1 := k0.frozen 1; have f2 := k0.frozen 2; have f3 := k0.frozen 3; have f4 := k0.frozen 4; have K1 := hide k1; clear k0 k1))
        go_wp2_with fail
        obtain ⟨FB, G0, G1, G2, G3, G4⟩ := tk_end (HW0.out.below HVV.out) (HWB.out.trans (HVV.out.mono HWB.out.size)) (.int .i64 1) (.string X) (.string ⟨#[]⟩) (.slice a m cap) (.int .i64 (p : Int))
        unfold st5 at FB G0 G1 G2 G3 G4
        have FR := (K6.out.below HVV.out).set5 (HW0.out.below HVV.out) (.int .i64 1) (.string X) (.string ⟨#[]⟩) (.slice a m cap) (.int .i64 (p : Int))
        unfold st5 at FR
        generalize (((((wy.setCell ⟨w.heap.size, 0, none⟩ (.int .i64 1)).setCell ⟨w.heap.size, 1, none⟩ (.string X)).setCell ⟨w.heap.size, 2, none⟩ (.string ⟨#[]⟩)).setCell ⟨w.heap.size, 3, none⟩ (.slice a m cap)).setCell ⟨w.heap.size, 4, none⟩ (.int .i64 (p : Int))) = wf at FB FR G0 G1 G2 G3 G4 ⊢
        have HN : Hid (((p5 : Nat) : Int) = ((s.size - (s.data.toList.drop (p4 + 1)).length : Nat) : Int)) := hide (by rw [List.length_drop, size_l]; omega)
        exact bodyPost_ret (v := .tuple #[.agg #[.int .i64 1, .string X, .string ⟨#[]⟩, .slice a m cap, .int .i64 (p : Int)], .int .i64 (p5 : Int), .bool (!H)]) (by simp [results, Tryd.results23, go_sem, G0, G1, G2, G3, G4, e6]) rfl ⟨FB, .slice a m cap, by rw [HHC.out, HX.out, HN.out], FR⟩
      · have f62 : ((s[p4].toNat : Int) == 62) = false := by
          rw [beq_eq_false_iff_ne]; intro h; apply e62; apply UInt8.toNat_inj.1; show s[p4].toNat = 62; omega
        have n62 : hp [62] (bk (s.data.toList.drop q)) = false := by rw [← g3, at_hp s p4 62 _ rfl c4, beq_eq_false_iff_ne]; exact e62
        by_cases e47 : s[p4] = 47
        · have f47b : ((s[p4].toNat : Int) == 47) = true := by rw [e47]; rfl
          have D0 := hide (k3.other (b' := w.heap.size + 1) (by omega) 0 (.int .i64 3))
          have D1 := hide (show Blk (wr.setCell ⟨w.heap.size + 1, 0, none⟩ (.int .i64 3)) (w.heap.size + 1) #[.int .i64 3, .string X, .string ⟨#[]⟩, .slice a m cap, .int .i64 (p : Int)] 45 from by simpa using k4.set 0 (.int .i64 3))
          have DB := hide (k5.setCell (p := ⟨w.heap.size + 1, 0, none⟩) (by simp) (.int .i64 3))
          have D6 := hide (k6.set k4 (by decide) 0 (.int .i64 3))
          have E0 := k4.frozen 0
          obtain ⟨p5, hp5⟩ : ∃ p5, p4 + 2 = p5 := ⟨_, rfl⟩
          have e5 : (p4 : Int) + 2 = (p5 : Int) := by omega
          have e6 : IntKind.i64.wrap (p5 : Int) = (p5 : Int) := by rw [IntKind.wrap_i64]; omega
          obtain ⟨p6, hp6⟩ : ∃ p6, p4 + 1 = p6 := ⟨_, rfl⟩
          have e7 : (p4 : Int) + 1 = (p6 : Int) := by omega
          have h2 := at_hp2 s p4 c4
          rw [e47, hp6] at h2
          by_cases c6 : p6 < s.size
          · have c6' : (p6 : Int) < (s.size : Int) := by omega
            have d6 : decide ((p6 : Int) < (s.size : Int)) = true := decide_eq_true c6'
            have e8 : IntKind.i64.wrap (p6 : Int) = (p6 : Int) := by rw [IntKind.wrap_i64]; omega
            by_cases e6b : s[p6] = 62
            · obtain ⟨H, hH⟩ : ∃ H, hc ((s.data.toList.drop p).take (p4 - p)) = H := ⟨_, rfl⟩
              have g47 : (s.data.toList.drop p)[p4 - p]? = some 47 := by
                rw [List.getElem?_drop, show p + (p4 - p) = p4 by omega, List.getElem?_eq_getElem (by rw [size_l]; exact c4)]
                exact congrArg some e47
              have g62 : (s.data.toList.drop p)[p4 - p + 1]? = some 62 := by
                rw [List.getElem?_drop, show p + (p4 - p + 1) = p6 by omega, List.getElem?_eq_getElem (by rw [size_l]; exact c6)]
                exact congrArg some e6b
              have hvt := (HV.out.cut (p4 - p) (fun b hb => by rw [g47] at hb; injection hb with hb; rw [← hb]; decide)).1
              have CX := fun w => CC.out p p4 w (by omega) (by omega) hvt
              rw [hH] at CX
              have CCX := hide CX
              rw [at_hp s p6 62 _ rfl c6, e6b] at h2
              have h2' : hp [47, 62] (s.data.toList.drop p4) = true := by rw [h2]; rfl
              have hT := at_tp2 s p4 h2'
              have hR := k7.b n62 (by rw [← g3]; exact h2')
              rw [← g3, ← hT] at hR
              subst hR
              have hr := HRR.out
              subst hr
              have HHC : Hid (HC (s.data.toList.drop p) (s.data.toList.drop (p4 + 2)) = H) := hide (by
                unfold HC
                rw [List.length_drop, List.length_drop, size_l, show s.size - p - (s.size - (p4 + 2)) = (p4 - p) + 1 + 1 by omega, List.take_add_one, List.take_add_one, g47, g62, List.append_assoc, hc_app hvt, hH]
                show (H || hc [47, 62]) = H
                rw [show hc [47, 62] = false by decide, Bool.or_false])
              have f6 : ((s[p6].toNat : Int) == 62) = true := by rw [e6b]; rfl
              have HN : Hid (((p5 : Nat) : Int) = ((s.size - (s.data.toList.drop (p4 + 2)).length : Nat) : Int)) := hide (by rw [List.length_drop, size_l]; omega)
              clear hT CX hvt g47 g62 hH HRR e62 e47 e6b CC k3 k4 k5 k6 k7 k8 g3 HK h2 h2' n62 hp5 hp6 CA
              go_upto_region 21 with (first
                | (go_at_call 44; refine (CBq.out _).mono ?_; rintro e w1 ⟨rfl, hw⟩; subst hw))
              generalize (w1.setCell ⟨w.heap.size + 1, 0, none⟩ (.int .i64 3)) = wq at D0 D1 DB D6 ⊢
              have b0 := D1.out.cell 0; have b1 := D1.out.cell 1; have b2 := D1.out.cell 2; have b3 := D1.out.cell 3; have b4 := D1.out.cell 4
              simp at b0 b1 b2 b3 b4
              have y0 := D0.out.cell 0; have y1 := D0.out.cell 1; have y2 := D0.out.cell 2; have y3 := D0.out.cell 3; have y4 := D0.out.cell 4
              simp at y0 y1 y2 y3 y4
              have h0 := D0.out.frozen 0; have h1 := D0.out.frozen 1; have h2 := D0.out.frozen 2; have h3 := D0.out.frozen 3; have h4 := D0.out.frozen 4
              have HVV := hide (Below.refl wq.heap.size wq)
              have KB := hide (show ∀ u, Blk u (w.heap.size + 1) #[.int .i64 3, .string X, .string ⟨#[]⟩, .slice a m cap, .int .i64 (p : Int)] 45 → (u.cell? ⟨w.heap.size + 1, 0, none⟩ = some (.int .i64 3) ∧ u.cell? ⟨w.heap.size + 1, 1, none⟩ = some (.string X) ∧ u.cell? ⟨w.heap.size + 1, 2, none⟩ = some (.string ⟨#[]⟩) ∧ u.cell? ⟨w.heap.size + 1, 3, none⟩ = some (.slice a m cap) ∧ u.cell? ⟨w.heap.size + 1, 4, none⟩ = some (.int .i64 (p : Int))) from fun u k1 => ⟨by simpa using k1.cell 0, by simpa using k1.cell 1, by simpa using k1.cell 2, by simpa using k1.cell 3, by simpa using k1.cell 4⟩)
              have NE := hide (show w.heap.size + 1 ≠ w.heap.size by omega)
              go_region_held3 (fun u => u.cell? ⟨w.heap.size + 1, 0, none⟩ = some (.int .i64 3) ∧ u.cell? ⟨w.heap.size + 1, 1, none⟩ = some (.string X) ∧ u.cell? ⟨w.heap.size + 1, 2, none⟩ = some (.string ⟨#[]⟩) ∧ u.cell? ⟨w.heap.size + 1, 3, none⟩ = some (.slice a m cap) ∧ u.cell? ⟨w.heap.size + 1, 4, none⟩ = some (.int .i64 (p : Int))) (exact KB.out _ (by repeat (first | (with_reducible exact K1.out) | (with_reducible exact D1.out) | (with_reducible refine Blk.other ?_ NE.out _ _) | (with_reducible refine bdr ?_)))) ((go_at_call 45; refine (CCX.out _).mono ?_; rintro e wy ⟨rfl, hy⟩; replace HVV := hide (below_d HVV.out hy rfl rfl rfl rfl); clear hy; have k1 := D1.out.below HVV.out; have k0 := D0.out.below HVV.out; have a0 := k1.cell 0; have a1 := k1.cell 1; have a2 := k1.cell 2; have a3 := k1.cell 3; have a4 := k1.cell 4; have z0 := k0.cell 0; have z1 := k0.cell 1; have z2 := k0.cell 2; have z3 := k0.cell 3; have z4 := k0.cell 4; simp at a0 a1 a2 a3 a4 z0 z1 z2 z3 z4; have f0 := k0.frozen 0; have f1 := k0.frozen 1; have f2 := k0.frozen 2; have f3 := k0.frozen 3; have f4 := k0.frozen 4; have K1 := hide k1; clear k0 k1))
              go_wp2_with fail
              obtain ⟨FB, G0, G1, G2, G3, G4⟩ := tk_end (D0.out.below HVV.out) (DB.out.trans (HVV.out.mono DB.out.size)) (.int .i64 3) (.string X) (.string ⟨#[]⟩) (.slice a m cap) (.int .i64 (p : Int))
              unfold st5 at FB G0 G1 G2 G3 G4
              have FR := (D6.out.below HVV.out).set5 (D0.out.below HVV.out) (.int .i64 3) (.string X) (.string ⟨#[]⟩) (.slice a m cap) (.int .i64 (p : Int))
              unfold st5 at FR
              generalize (((((wy.setCell ⟨w.heap.size, 0, none⟩ (.int .i64 3)).setCell ⟨w.heap.size, 1, none⟩ (.string X)).setCell ⟨w.heap.size, 2, none⟩ (.string ⟨#[]⟩)).setCell ⟨w.heap.size, 3, none⟩ (.slice a m cap)).setCell ⟨w.heap.size, 4, none⟩ (.int .i64 (p : Int))) = wf at FB FR G0 G1 G2 G3 G4 ⊢
              exact bodyPost_ret (v := .tuple #[.agg #[.int .i64 3, .string X, .string ⟨#[]⟩, .slice a m cap, .int .i64 (p : Int)], .int .i64 (p5 : Int), .bool (!H)]) (by simp [results, Tryd.results23, go_sem, G0, G1, G2, G3, G4, e6]) rfl ⟨FB, .slice a m cap, by rw [HHC.out, HX.out, HN.out], FR⟩
            · have f6 : ((s[p6].toNat : Int) == 62) = false := by
                rw [beq_eq_false_iff_ne]; intro h; apply e6b; apply UInt8.toNat_inj.1; show s[p6].toNat = 62; omega
              rw [at_hp s p6 62 _ rfl c6, show (s[p6] == 62) = false by rw [beq_eq_false_iff_ne]; exact e6b] at h2
              have hR := k7.d n62 (by rw [← g3, h2]; rfl) (by rw [← g3, List.drop_eq_getElem_cons (by rw [size_l]; exact c4)]; show atR (s[p4] :: _) = none; rw [e47]; exact atR_47 _)
              subst hR
              have hr := HRR.out
              subst hr
              clear HRR k3 k4 k5 k6 k7 k8 g3 HK CC h2 n62 e47 e62 e6b hp5 hp6 CA
              go_upto_region 21 with (first
                | (go_at_call 44; refine (CBq.out _).mono ?_; rintro e w1 ⟨rfl, hw⟩; subst hw))
              generalize (w1.setCell ⟨w.heap.size + 1, 0, none⟩ (.int .i64 3)) = wq at D0 D1 DB D6 ⊢
              have b0 := D1.out.cell 0; have b1 := D1.out.cell 1; have b2 := D1.out.cell 2; have b3 := D1.out.cell 3; have b4 := D1.out.cell 4
              simp at b0 b1 b2 b3 b4
              have y0 := D0.out.cell 0; have y1 := D0.out.cell 1; have y2 := D0.out.cell 2; have y3 := D0.out.cell 3; have y4 := D0.out.cell 4
              simp at y0 y1 y2 y3 y4
              have h0 := D0.out.frozen 0; have h1 := D0.out.frozen 1; have h2 := D0.out.frozen 2; have h3 := D0.out.frozen 3; have h4 := D0.out.frozen 4
              have HVV := hide (Below.refl wq.heap.size wq)
              have KB := hide (show ∀ u, Blk u (w.heap.size + 1) #[.int .i64 3, .string X, .string ⟨#[]⟩, .slice a m cap, .int .i64 (p : Int)] 45 → (u.cell? ⟨w.heap.size + 1, 0, none⟩ = some (.int .i64 3) ∧ u.cell? ⟨w.heap.size + 1, 1, none⟩ = some (.string X) ∧ u.cell? ⟨w.heap.size + 1, 2, none⟩ = some (.string ⟨#[]⟩) ∧ u.cell? ⟨w.heap.size + 1, 3, none⟩ = some (.slice a m cap) ∧ u.cell? ⟨w.heap.size + 1, 4, none⟩ = some (.int .i64 (p : Int))) from fun u k1 => ⟨by simpa using k1.cell 0, by simpa using k1.cell 1, by simpa using k1.cell 2, by simpa using k1.cell 3, by simpa using k1.cell 4⟩)
              have NE := hide (show w.heap.size + 1 ≠ w.heap.size by omega)
              refine wp_region_held_drew (S := (fun u => u.cell? ⟨w.heap.size + 1, 0, none⟩ = some (.int .i64 3) ∧ u.cell? ⟨w.heap.size + 1, 1, none⟩ = some (.string X) ∧ u.cell? ⟨w.heap.size + 1, 2, none⟩ = some (.string ⟨#[]⟩) ∧ u.cell? ⟨w.heap.size + 1, 3, none⟩ = some (.slice a m cap) ∧ u.cell? ⟨w.heap.size + 1, 4, none⟩ = some (.int .i64 (p : Int)))) (by kernel_rfl) (by exact KB.out _ (by repeat (first | (with_reducible exact D1.out) | (with_reducible refine Blk.other ?_ NE.out _ _) | (with_reducible refine bdr ?_)))) (fun hHeld => ?_)
              refine takeW (i := 0) (d := 82) (v := .agg #[.int .i64 3, .string X, .string ⟨#[]⟩, .slice a m cap, .int .i64 (p : Int)]) rfl rfl (by kernel_rfl) (by kernel_rfl) (by kernel_rfl) (fun _ _ _ h => h) (by rfl) ?_ (by assumption) ?_
              · intro x hSx
                obtain ⟨q0, q1, q2, q3, q4⟩ := hSx
                go_simp
              simp only [Act.put, List.setIfInBounds_toArray, List.set_cons_zero, List.set_cons_succ]
              refine takeW (i := 1) (d := 83) (v := .int .i64 (p4 : Int)) rfl rfl (by kernel_rfl) (by kernel_rfl) (by kernel_rfl) (fun _ _ _ h => h) (by rfl) ?_ (by assumption) ?_
              · intro x hSx
                obtain ⟨q0, q1, q2, q3, q4⟩ := hSx
                go_simp
              simp only [Act.put, List.setIfInBounds_toArray, List.set_cons_zero, List.set_cons_succ]
              refine takeW (i := 2) (d := 84) (v := .int .i64 (p5 : Int)) rfl rfl (by kernel_rfl) (by kernel_rfl) (by kernel_rfl) (fun _ _ _ h => h) (by rfl) ?_ (by assumption) ?_
              · intro x hSx
                obtain ⟨q0, q1, q2, q3, q4⟩ := hSx
                go_simp
              simp only [Act.put, List.setIfInBounds_toArray, List.set_cons_zero, List.set_cons_succ]
              refine takeW (i := 3) (d := 85) (v := .int .i64 (p4 : Int)) rfl rfl (by kernel_rfl) (by kernel_rfl) (by kernel_rfl) (fun _ _ _ h => h) (by rfl) ?_ (by assumption) ?_
              · intro x hSx
                obtain ⟨q0, q1, q2, q3, q4⟩ := hSx
                go_simp
              simp only [Act.put, List.setIfInBounds_toArray, List.set_cons_zero, List.set_cons_succ]
              refine takeW (i := 4) (d := 86) (v := .int .i64 (p6 : Int)) rfl rfl (by kernel_rfl) (by kernel_rfl) (by kernel_rfl) (fun _ _ _ h => h) (by rfl) ?_ (by assumption) ?_
              · intro x hSx
                obtain ⟨q0, q1, q2, q3, q4⟩ := hSx
                go_simp
              simp only [Act.put, List.setIfInBounds_toArray, List.set_cons_zero, List.set_cons_succ]
              refine takeW (i := 5) (d := 87) (v := .string s) rfl rfl (by kernel_rfl) (by kernel_rfl) (by kernel_rfl) (fun _ _ _ h => h) (by rfl) ?_ (by assumption) ?_
              · intro x hSx
                obtain ⟨q0, q1, q2, q3, q4⟩ := hSx
                go_simp
              simp only [Act.put, List.setIfInBounds_toArray, List.set_cons_zero, List.set_cons_succ]
              refine takeW (i := 6) (d := 88) (v := .int .i64 (s.size : Int)) rfl rfl (by kernel_rfl) (by kernel_rfl) (by kernel_rfl) (fun _ _ _ h => h) (by rfl) ?_ (by assumption) ?_
              · intro x hSx
                obtain ⟨q0, q1, q2, q3, q4⟩ := hSx
                go_simp
              simp only [Act.put, List.setIfInBounds_toArray, List.set_cons_zero, List.set_cons_succ]
              refine takeW (i := 7) (d := 89) (v := .bool true) rfl rfl (by kernel_rfl) (by kernel_rfl) (by kernel_rfl) (fun _ _ _ h => h) (by rfl) ?_ (by assumption) ?_
              · intro x hSx
                obtain ⟨q0, q1, q2, q3, q4⟩ := hSx
                go_simp
              simp only [Act.put, List.setIfInBounds_toArray, List.set_cons_zero, List.set_cons_succ]
              refine takeW (i := 8) (d := 90) (v := .bool true) rfl rfl (by kernel_rfl) (by kernel_rfl) (by kernel_rfl) (fun _ _ _ h => h) (by rfl) ?_ (by assumption) ?_
              · intro x hSx
                obtain ⟨q0, q1, q2, q3, q4⟩ := hSx
                go_simp
              simp only [Act.put, List.setIfInBounds_toArray, List.set_cons_zero, List.set_cons_succ]
              refine takeW (i := 9) (d := 91) (v := .string s) rfl rfl (by kernel_rfl) (by kernel_rfl) (by kernel_rfl) (fun _ _ _ h => h) (by rfl) ?_ (by assumption) ?_
              · intro x hSx
                obtain ⟨q0, q1, q2, q3, q4⟩ := hSx
                go_simp
              simp only [Act.put, List.setIfInBounds_toArray, List.set_cons_zero, List.set_cons_succ]
              refine takeW (i := 10) (d := 92) (v := .int .i64 (p4 : Int)) rfl rfl (by kernel_rfl) (by kernel_rfl) (by kernel_rfl) (fun _ _ _ h => h) (by rfl) ?_ (by assumption) ?_
              · intro x hSx
                obtain ⟨q0, q1, q2, q3, q4⟩ := hSx
                go_simp
              simp only [Act.put, List.setIfInBounds_toArray, List.set_cons_zero, List.set_cons_succ]
              refine takeW (i := 11) (d := 93) (v := .int .i64 (p6 : Int)) rfl rfl (by kernel_rfl) (by kernel_rfl) (by kernel_rfl) (fun _ _ _ h => h) (by rfl) ?_ (by assumption) ?_
              · intro x hSx
                obtain ⟨q0, q1, q2, q3, q4⟩ := hSx
                go_simp
              simp only [Act.put, List.setIfInBounds_toArray, List.set_cons_zero, List.set_cons_succ]
              refine takeW (i := 12) (d := 94) (v := .int .u8 (s[p6].toNat : Int)) rfl rfl (by kernel_rfl) (by kernel_rfl) (by kernel_rfl) (fun _ _ _ h => h) (by rfl) ?_ (by assumption) ?_
              · intro x hSx
                obtain ⟨q0, q1, q2, q3, q4⟩ := hSx
                go_simp
              simp only [Act.put, List.setIfInBounds_toArray, List.set_cons_zero, List.set_cons_succ]
              refine takeW (i := 13) (d := 95) (v := .bool false) rfl rfl (by kernel_rfl) (by kernel_rfl) (by kernel_rfl) (fun _ _ _ h => h) (by rfl) ?_ (by assumption) ?_
              · intro x hSx
                obtain ⟨q0, q1, q2, q3, q4⟩ := hSx
                go_simp
              simp only [Act.put, List.setIfInBounds_toArray, List.set_cons_zero, List.set_cons_succ]
              refine takeW (i := 14) (d := 96) (v := .bool false) rfl rfl (by kernel_rfl) (by kernel_rfl) (by kernel_rfl) (fun _ _ _ h => h) (by rfl) ?_ (by assumption) ?_
              · intro x hSx
                obtain ⟨q0, q1, q2, q3, q4⟩ := hSx
                go_simp
              simp only [Act.put, List.setIfInBounds_toArray, List.set_cons_zero, List.set_cons_succ]
              refine takeW (i := 15) (d := 97) (v := .bool false) rfl rfl (by kernel_rfl) (by kernel_rfl) (by kernel_rfl) (fun _ _ _ h => h) (by rfl) ?_ (by assumption) ?_
              · intro x hSx
                obtain ⟨q0, q1, q2, q3, q4⟩ := hSx
                go_simp
              simp only [Act.put, List.setIfInBounds_toArray, List.set_cons_zero, List.set_cons_succ]
              refine takeN (i := 16) (d := 98) rfl rfl (by kernel_rfl) (by kernel_rfl) (by kernel_rfl) (fun _ _ _ h => h) (by rfl) (by assumption) ?_
              simp only [Act.put, List.setIfInBounds_toArray, List.set_cons_zero, List.set_cons_succ]
              refine takeN (i := 17) (d := 99) rfl rfl (by kernel_rfl) (by kernel_rfl) (by kernel_rfl) (fun _ _ _ h => h) (by rfl) (by assumption) ?_
              simp only [Act.put, List.setIfInBounds_toArray, List.set_cons_zero, List.set_cons_succ]
              refine takeN (i := 18) (d := 100) rfl rfl (by kernel_rfl) (by kernel_rfl) (by kernel_rfl) (fun _ _ _ h => h) (by rfl) (by assumption) ?_
              simp only [Act.put, List.setIfInBounds_toArray, List.set_cons_zero, List.set_cons_succ]
              refine takeN (i := 19) (d := 101) rfl rfl (by kernel_rfl) (by kernel_rfl) (by kernel_rfl) (fun _ _ _ h => h) (by rfl) (by assumption) ?_
              simp only [Act.put, List.setIfInBounds_toArray, List.set_cons_zero, List.set_cons_succ]
              refine takeN (i := 20) (d := 102) rfl rfl (by kernel_rfl) (by kernel_rfl) (by kernel_rfl) (fun _ _ _ h => h) (by rfl) (by assumption) ?_
              simp only [Act.put, List.setIfInBounds_toArray, List.set_cons_zero, List.set_cons_succ]
              refine takeW (i := 21) (d := 103) (v := .bool false) rfl rfl (by kernel_rfl) (by kernel_rfl) (by kernel_rfl) (fun _ _ _ h => h) (by rfl) ?_ (by assumption) ?_
              · intro x hSx
                obtain ⟨q0, q1, q2, q3, q4⟩ := hSx
                go_simp
              simp only [Act.put, List.setIfInBounds_toArray, List.set_cons_zero, List.set_cons_succ]
              refine wpAnyH_ready (rs := [22]) (by kernel_rfl) (by simp) ?_
              refine AllReadyH.cons rfl (fun K hK => ?_) AllReadyH.nil
              go_simp
              refine hK.out _ _ (by exact KB.out _ (by repeat (first | (with_reducible exact D1.out) | (with_reducible refine Blk.other ?_ NE.out _ _) | (with_reducible refine bdr ?_)))) (fun hHeld => ?_)
              try simp only [Act.put, List.setIfInBounds_toArray, List.set_cons_zero, List.set_cons_succ]
              clear hK K
              refine takeW (i := 23) (d := 5) (v := .int .i64 (p5 : Int)) rfl rfl (by kernel_rfl) (by kernel_rfl) (by kernel_rfl) (fun _ _ _ h => h) (by rfl) ?_ (by assumption) ?_
              · intro x hSx
                obtain ⟨q0, q1, q2, q3, q4⟩ := hSx
                go_simp
              simp only [Act.put, List.setIfInBounds_toArray, List.set_cons_zero, List.set_cons_succ]
              refine takeW (i := 24) (d := 6) (v := .bool false) rfl rfl (by kernel_rfl) (by kernel_rfl) (by kernel_rfl) (fun _ _ _ h => h) (by rfl) ?_ (by assumption) ?_
              · intro x hSx
                obtain ⟨q0, q1, q2, q3, q4⟩ := hSx
                go_simp
              simp only [Act.put, List.setIfInBounds_toArray, List.set_cons_zero, List.set_cons_succ]
              refine wpAnyH_done (by kernel_rfl) ?_ _
              go_wp2_with fail
              obtain ⟨FB, G0, G1, G2, G3, G4⟩ := tk_end (D0.out.below HVV.out) (DB.out.trans (HVV.out.mono DB.out.size)) (.int .i64 3) (.string X) (.string ⟨#[]⟩) (.slice a m cap) (.int .i64 (p : Int))
              unfold st5 at FB G0 G1 G2 G3 G4
              have FR := (D6.out.below HVV.out).set5 (D0.out.below HVV.out) (.int .i64 3) (.string X) (.string ⟨#[]⟩) (.slice a m cap) (.int .i64 (p : Int))
              unfold st5 at FR
              generalize (((((wq.setCell ⟨w.heap.size, 0, none⟩ (.int .i64 3)).setCell ⟨w.heap.size, 1, none⟩ (.string X)).setCell ⟨w.heap.size, 2, none⟩ (.string ⟨#[]⟩)).setCell ⟨w.heap.size, 3, none⟩ (.slice a m cap)).setCell ⟨w.heap.size, 4, none⟩ (.int .i64 (p : Int))) = wf at FB FR G0 G1 G2 G3 G4 ⊢
              exact bodyPost_ret (v := .tuple #[.agg #[.int .i64 3, .string X, .string ⟨#[]⟩, .slice a m cap, .int .i64 (p : Int)], .int .i64 (p5 : Int), .bool false]) (by simp [results, Tryd.results23, go_sem, G0, G1, G2, G3, G4, e6]) rfl ⟨below_d FB (Below.refl wf.drew.heap.size wf.drew) rfl rfl rfl rfl, _, _, _, _, _, _, _, _, rfl⟩
          · have c6' : ¬ (p6 : Int) < (s.size : Int) := by omega
            have d6 : decide ((p6 : Int) < (s.size : Int)) = false := decide_eq_false c6'
            have e8 : IntKind.i64.wrap (p6 : Int) = (p6 : Int) := by rw [IntKind.wrap_i64]; omega
            rw [at_hpe s p6 62 _ rfl (by omega)] at h2
            have hR := k7.d n62 (by rw [← g3, h2]; rfl) (by rw [← g3, List.drop_eq_getElem_cons (by rw [size_l]; exact c4)]; show atR (s[p4] :: _) = none; rw [e47]; exact atR_47 _)
            subst hR
            have hr := HRR.out
            subst hr
            clear HRR k3 k4 k5 k6 k7 k8 g3 HK CC h2 n62 e47 e62 hp5 hp6 CA
            go_upto_region 21 with (first
              | (go_at_call 44; refine (CBq.out _).mono ?_; rintro e w1 ⟨rfl, hw⟩; subst hw))
            generalize (w1.setCell ⟨w.heap.size + 1, 0, none⟩ (.int .i64 3)) = wq at D0 D1 DB D6 ⊢
            have b0 := D1.out.cell 0; have b1 := D1.out.cell 1; have b2 := D1.out.cell 2; have b3 := D1.out.cell 3; have b4 := D1.out.cell 4
            simp at b0 b1 b2 b3 b4
            have y0 := D0.out.cell 0; have y1 := D0.out.cell 1; have y2 := D0.out.cell 2; have y3 := D0.out.cell 3; have y4 := D0.out.cell 4
            simp at y0 y1 y2 y3 y4
            have h0 := D0.out.frozen 0; have h1 := D0.out.frozen 1; have h2 := D0.out.frozen 2; have h3 := D0.out.frozen 3; have h4 := D0.out.frozen 4
            have HVV := hide (Below.refl wq.heap.size wq)
            have KB := hide (show ∀ u, Blk u (w.heap.size + 1) #[.int .i64 3, .string X, .string ⟨#[]⟩, .slice a m cap, .int .i64 (p : Int)] 45 → (u.cell? ⟨w.heap.size + 1, 0, none⟩ = some (.int .i64 3) ∧ u.cell? ⟨w.heap.size + 1, 1, none⟩ = some (.string X) ∧ u.cell? ⟨w.heap.size + 1, 2, none⟩ = some (.string ⟨#[]⟩) ∧ u.cell? ⟨w.heap.size + 1, 3, none⟩ = some (.slice a m cap) ∧ u.cell? ⟨w.heap.size + 1, 4, none⟩ = some (.int .i64 (p : Int))) from fun u k1 => ⟨by simpa using k1.cell 0, by simpa using k1.cell 1, by simpa using k1.cell 2, by simpa using k1.cell 3, by simpa using k1.cell 4⟩)
            have NE := hide (show w.heap.size + 1 ≠ w.heap.size by omega)
            refine wp_region_held_drew (S := (fun u => u.cell? ⟨w.heap.size + 1, 0, none⟩ = some (.int .i64 3) ∧ u.cell? ⟨w.heap.size + 1, 1, none⟩ = some (.string X) ∧ u.cell? ⟨w.heap.size + 1, 2, none⟩ = some (.string ⟨#[]⟩) ∧ u.cell? ⟨w.heap.size + 1, 3, none⟩ = some (.slice a m cap) ∧ u.cell? ⟨w.heap.size + 1, 4, none⟩ = some (.int .i64 (p : Int)))) (by kernel_rfl) (by exact KB.out _ (by repeat (first | (with_reducible exact D1.out) | (with_reducible refine Blk.other ?_ NE.out _ _) | (with_reducible refine bdr ?_)))) (fun hHeld => ?_)
            refine takeW (i := 0) (d := 82) (v := .agg #[.int .i64 3, .string X, .string ⟨#[]⟩, .slice a m cap, .int .i64 (p : Int)]) rfl rfl (by kernel_rfl) (by kernel_rfl) (by kernel_rfl) (fun _ _ _ h => h) (by rfl) ?_ (by assumption) ?_
            · intro x hSx
              obtain ⟨q0, q1, q2, q3, q4⟩ := hSx
              go_simp
            simp only [Act.put, List.setIfInBounds_toArray, List.set_cons_zero, List.set_cons_succ]
            refine takeW (i := 1) (d := 83) (v := .int .i64 (p4 : Int)) rfl rfl (by kernel_rfl) (by kernel_rfl) (by kernel_rfl) (fun _ _ _ h => h) (by rfl) ?_ (by assumption) ?_
            · intro x hSx
              obtain ⟨q0, q1, q2, q3, q4⟩ := hSx
              go_simp
            simp only [Act.put, List.setIfInBounds_toArray, List.set_cons_zero, List.set_cons_succ]
            refine takeW (i := 2) (d := 84) (v := .int .i64 (p5 : Int)) rfl rfl (by kernel_rfl) (by kernel_rfl) (by kernel_rfl) (fun _ _ _ h => h) (by rfl) ?_ (by assumption) ?_
            · intro x hSx
              obtain ⟨q0, q1, q2, q3, q4⟩ := hSx
              go_simp
            simp only [Act.put, List.setIfInBounds_toArray, List.set_cons_zero, List.set_cons_succ]
            refine takeW (i := 3) (d := 85) (v := .int .i64 (p4 : Int)) rfl rfl (by kernel_rfl) (by kernel_rfl) (by kernel_rfl) (fun _ _ _ h => h) (by rfl) ?_ (by assumption) ?_
            · intro x hSx
              obtain ⟨q0, q1, q2, q3, q4⟩ := hSx
              go_simp
            simp only [Act.put, List.setIfInBounds_toArray, List.set_cons_zero, List.set_cons_succ]
            refine takeW (i := 4) (d := 86) (v := .int .i64 (p6 : Int)) rfl rfl (by kernel_rfl) (by kernel_rfl) (by kernel_rfl) (fun _ _ _ h => h) (by rfl) ?_ (by assumption) ?_
            · intro x hSx
              obtain ⟨q0, q1, q2, q3, q4⟩ := hSx
              go_simp
            simp only [Act.put, List.setIfInBounds_toArray, List.set_cons_zero, List.set_cons_succ]
            refine takeW (i := 5) (d := 87) (v := .string s) rfl rfl (by kernel_rfl) (by kernel_rfl) (by kernel_rfl) (fun _ _ _ h => h) (by rfl) ?_ (by assumption) ?_
            · intro x hSx
              obtain ⟨q0, q1, q2, q3, q4⟩ := hSx
              go_simp
            simp only [Act.put, List.setIfInBounds_toArray, List.set_cons_zero, List.set_cons_succ]
            refine takeW (i := 6) (d := 88) (v := .int .i64 (s.size : Int)) rfl rfl (by kernel_rfl) (by kernel_rfl) (by kernel_rfl) (fun _ _ _ h => h) (by rfl) ?_ (by assumption) ?_
            · intro x hSx
              obtain ⟨q0, q1, q2, q3, q4⟩ := hSx
              go_simp
            simp only [Act.put, List.setIfInBounds_toArray, List.set_cons_zero, List.set_cons_succ]
            refine takeW (i := 7) (d := 89) (v := .bool false) rfl rfl (by kernel_rfl) (by kernel_rfl) (by kernel_rfl) (fun _ _ _ h => h) (by rfl) ?_ (by assumption) ?_
            · intro x hSx
              obtain ⟨q0, q1, q2, q3, q4⟩ := hSx
              go_simp
            simp only [Act.put, List.setIfInBounds_toArray, List.set_cons_zero, List.set_cons_succ]
            refine takeW (i := 8) (d := 90) (v := .bool false) rfl rfl (by kernel_rfl) (by kernel_rfl) (by kernel_rfl) (fun _ _ _ h => h) (by rfl) ?_ (by assumption) ?_
            · intro x hSx
              obtain ⟨q0, q1, q2, q3, q4⟩ := hSx
              go_simp
            simp only [Act.put, List.setIfInBounds_toArray, List.set_cons_zero, List.set_cons_succ]
            refine takeN (i := 9) (d := 91) rfl rfl (by kernel_rfl) (by kernel_rfl) (by kernel_rfl) (fun _ _ _ h => h) (by rfl) (by assumption) ?_
            simp only [Act.put, List.setIfInBounds_toArray, List.set_cons_zero, List.set_cons_succ]
            refine takeN (i := 10) (d := 92) rfl rfl (by kernel_rfl) (by kernel_rfl) (by kernel_rfl) (fun _ _ _ h => h) (by rfl) (by assumption) ?_
            simp only [Act.put, List.setIfInBounds_toArray, List.set_cons_zero, List.set_cons_succ]
            refine takeN (i := 11) (d := 93) rfl rfl (by kernel_rfl) (by kernel_rfl) (by kernel_rfl) (fun _ _ _ h => h) (by rfl) (by assumption) ?_
            simp only [Act.put, List.setIfInBounds_toArray, List.set_cons_zero, List.set_cons_succ]
            refine takeN (i := 12) (d := 94) rfl rfl (by kernel_rfl) (by kernel_rfl) (by kernel_rfl) (fun _ _ _ h => h) (by rfl) (by assumption) ?_
            simp only [Act.put, List.setIfInBounds_toArray, List.set_cons_zero, List.set_cons_succ]
            refine takeN (i := 13) (d := 95) rfl rfl (by kernel_rfl) (by kernel_rfl) (by kernel_rfl) (fun _ _ _ h => h) (by rfl) (by assumption) ?_
            simp only [Act.put, List.setIfInBounds_toArray, List.set_cons_zero, List.set_cons_succ]
            refine takeW (i := 14) (d := 96) (v := .bool false) rfl rfl (by kernel_rfl) (by kernel_rfl) (by kernel_rfl) (fun _ _ _ h => h) (by rfl) ?_ (by assumption) ?_
            · intro x hSx
              obtain ⟨q0, q1, q2, q3, q4⟩ := hSx
              go_simp
            simp only [Act.put, List.setIfInBounds_toArray, List.set_cons_zero, List.set_cons_succ]
            refine takeW (i := 15) (d := 97) (v := .bool false) rfl rfl (by kernel_rfl) (by kernel_rfl) (by kernel_rfl) (fun _ _ _ h => h) (by rfl) ?_ (by assumption) ?_
            · intro x hSx
              obtain ⟨q0, q1, q2, q3, q4⟩ := hSx
              go_simp
            simp only [Act.put, List.setIfInBounds_toArray, List.set_cons_zero, List.set_cons_succ]
            refine takeN (i := 16) (d := 98) rfl rfl (by kernel_rfl) (by kernel_rfl) (by kernel_rfl) (fun _ _ _ h => h) (by rfl) (by assumption) ?_
            simp only [Act.put, List.setIfInBounds_toArray, List.set_cons_zero, List.set_cons_succ]
            refine takeN (i := 17) (d := 99) rfl rfl (by kernel_rfl) (by kernel_rfl) (by kernel_rfl) (fun _ _ _ h => h) (by rfl) (by assumption) ?_
            simp only [Act.put, List.setIfInBounds_toArray, List.set_cons_zero, List.set_cons_succ]
            refine takeN (i := 18) (d := 100) rfl rfl (by kernel_rfl) (by kernel_rfl) (by kernel_rfl) (fun _ _ _ h => h) (by rfl) (by assumption) ?_
            simp only [Act.put, List.setIfInBounds_toArray, List.set_cons_zero, List.set_cons_succ]
            refine takeN (i := 19) (d := 101) rfl rfl (by kernel_rfl) (by kernel_rfl) (by kernel_rfl) (fun _ _ _ h => h) (by rfl) (by assumption) ?_
            simp only [Act.put, List.setIfInBounds_toArray, List.set_cons_zero, List.set_cons_succ]
            refine takeN (i := 20) (d := 102) rfl rfl (by kernel_rfl) (by kernel_rfl) (by kernel_rfl) (fun _ _ _ h => h) (by rfl) (by assumption) ?_
            simp only [Act.put, List.setIfInBounds_toArray, List.set_cons_zero, List.set_cons_succ]
            refine takeW (i := 21) (d := 103) (v := .bool false) rfl rfl (by kernel_rfl) (by kernel_rfl) (by kernel_rfl) (fun _ _ _ h => h) (by rfl) ?_ (by assumption) ?_
            · intro x hSx
              obtain ⟨q0, q1, q2, q3, q4⟩ := hSx
              go_simp
            simp only [Act.put, List.setIfInBounds_toArray, List.set_cons_zero, List.set_cons_succ]
            refine wpAnyH_ready (rs := [22]) (by kernel_rfl) (by simp) ?_
            refine AllReadyH.cons rfl (fun K hK => ?_) AllReadyH.nil
            go_simp
            refine hK.out _ _ (by exact KB.out _ (by repeat (first | (with_reducible exact D1.out) | (with_reducible refine Blk.other ?_ NE.out _ _) | (with_reducible refine bdr ?_)))) (fun hHeld => ?_)
            try simp only [Act.put, List.setIfInBounds_toArray, List.set_cons_zero, List.set_cons_succ]
            clear hK K
            refine takeW (i := 23) (d := 5) (v := .int .i64 (p5 : Int)) rfl rfl (by kernel_rfl) (by kernel_rfl) (by kernel_rfl) (fun _ _ _ h => h) (by rfl) ?_ (by assumption) ?_
            · intro x hSx
              obtain ⟨q0, q1, q2, q3, q4⟩ := hSx
              go_simp
            simp only [Act.put, List.setIfInBounds_toArray, List.set_cons_zero, List.set_cons_succ]
            refine takeW (i := 24) (d := 6) (v := .bool false) rfl rfl (by kernel_rfl) (by kernel_rfl) (by kernel_rfl) (fun _ _ _ h => h) (by rfl) ?_ (by assumption) ?_
            · intro x hSx
              obtain ⟨q0, q1, q2, q3, q4⟩ := hSx
              go_simp
            simp only [Act.put, List.setIfInBounds_toArray, List.set_cons_zero, List.set_cons_succ]
            refine wpAnyH_done (by kernel_rfl) ?_ _
            go_wp2_with fail
            obtain ⟨FB, G0, G1, G2, G3, G4⟩ := tk_end (D0.out.below HVV.out) (DB.out.trans (HVV.out.mono DB.out.size)) (.int .i64 3) (.string X) (.string ⟨#[]⟩) (.slice a m cap) (.int .i64 (p : Int))
            unfold st5 at FB G0 G1 G2 G3 G4
            have FR := (D6.out.below HVV.out).set5 (D0.out.below HVV.out) (.int .i64 3) (.string X) (.string ⟨#[]⟩) (.slice a m cap) (.int .i64 (p : Int))
            unfold st5 at FR
            generalize (((((wq.setCell ⟨w.heap.size, 0, none⟩ (.int .i64 3)).setCell ⟨w.heap.size, 1, none⟩ (.string X)).setCell ⟨w.heap.size, 2, none⟩ (.string ⟨#[]⟩)).setCell ⟨w.heap.size, 3, none⟩ (.slice a m cap)).setCell ⟨w.heap.size, 4, none⟩ (.int .i64 (p : Int))) = wf at FB FR G0 G1 G2 G3 G4 ⊢
            exact bodyPost_ret (v := .tuple #[.agg #[.int .i64 3, .string X, .string ⟨#[]⟩, .slice a m cap, .int .i64 (p : Int)], .int .i64 (p5 : Int), .bool false]) (by simp [results, Tryd.results23, go_sem, G0, G1, G2, G3, G4, e6]) rfl ⟨below_d FB (Below.refl wf.drew.heap.size wf.drew) rfl rfl rfl rfl, _, _, _, _, _, _, _, _, rfl⟩
        · have f47 : ((s[p4].toNat : Int) == 47) = false := by
            rw [beq_eq_false_iff_ne]; intro h; apply e47; apply UInt8.toNat_inj.1; show s[p4].toNat = 47; omega
          have n47 : hp [47, 62] (bk (s.data.toList.drop q)) = false := by
            rw [← g3, at_hp2 s p4 c4, show (s[p4] == 47) = false by rw [beq_eq_false_iff_ne]; exact e47]; rfl
          have CA4 := fun w => CA.out p4 w (by omega)
          have hqi : ∀ d : Bool, (decide (p4 = q) = d) → ((p4 : Int) == (q : Int)) = d := by
            intro d hd
            cases d
            · rw [beq_eq_false_iff_ne]; have := of_decide_eq_false hd; omega
            · rw [beq_iff_eq]; have := of_decide_eq_true hd; omega
          cases hA : atR (s.data.toList.drop p4) with
          | none =>
            rw [hA] at CA4
            have CAN := hide CA4
            have hR := k7.d n62 n47 (by rw [← g3]; exact hA)
            subst hR
            have hr := HRR.out
            subst hr
            obtain ⟨D, hD⟩ : ∃ D, decide (p4 = q) = D := ⟨_, rfl⟩
            have hD' := hqi D hD
            clear HRR k3 k4 k5 k6 k7 k8 g3 HK CC n62 n47 e47 e62 hA CA CA4 hqi hD
            cases D
            · go_wp2_with (first
                | (go_at_call 44; refine (CBq.out _).mono ?_; rintro e w1 ⟨rfl, hw⟩; subst hw)
                | (go_at_call 46; refine (CAN.out _).mono ?_; rintro e wb ⟨hb, x9, y9, k9, rfl⟩; obtain ⟨k0, k1⟩ := al_tk HW0.out HW1.out hb (.cells #[.string x9, .string y9] 47); have KW := hide (HWB.out.trans ((hb.alloc hb.size (.cells #[.string x9, .string y9] 47)).mono HWB.out.size)); clear hb; have a0 := k1.cell 0; have a1 := k1.cell 1; have a2 := k1.cell 2; have a3 := k1.cell 3; have a4 := k1.cell 4; have z0 := k0.cell 0; have z1 := k0.cell 1; have z2 := k0.cell 2; have z3 := k0.cell 3; have z4 := k0.cell 4; simp at a0 a1 a2 a3 a4 z0 z1 z2 z3 z4; have f0 := k0.frozen 0; have f1 := k0.frozen 1; have f2 := k0.frozen 2; have f3 := k0.frozen 3; have f4 := k0.frozen 4; have K1 := hide k1; have K0 := hide k0; clear k0 k1))
              obtain ⟨FB, G0, G1, G2, G3, G4⟩ := tk_end K0.out KW.out (.int .i64 1) (.string X) (.string ⟨#[]⟩) (.slice a m cap) (.int .i64 (p : Int))
              unfold st5 at FB G0 G1 G2 G3 G4
              exact bodyPost_ret (v := .tuple #[.agg #[.int .i64 1, .string X, .string ⟨#[]⟩, .slice a m cap, .int .i64 (p : Int)], .int .i64 0, .bool false]) (by simp [results, Tryd.results23, go_sem, G0, G1, G2, G3, G4]) rfl ⟨FB, _, _, _, _, _, _, _, _, rfl⟩
            · go_wp2_with (first
                | (go_at_call 44; refine (CBq.out _).mono ?_; rintro e w1 ⟨rfl, hw⟩; subst hw)
                | (go_at_call 46; refine (CAN.out _).mono ?_; rintro e wb ⟨hb, x9, y9, k9, rfl⟩; obtain ⟨k0, k1⟩ := al_tk HW0.out HW1.out hb (.cells #[.string x9, .string y9] 47); have KW := hide (HWB.out.trans ((hb.alloc hb.size (.cells #[.string x9, .string y9] 47)).mono HWB.out.size)); clear hb; have a0 := k1.cell 0; have a1 := k1.cell 1; have a2 := k1.cell 2; have a3 := k1.cell 3; have a4 := k1.cell 4; have z0 := k0.cell 0; have z1 := k0.cell 1; have z2 := k0.cell 2; have z3 := k0.cell 3; have z4 := k0.cell 4; simp at a0 a1 a2 a3 a4 z0 z1 z2 z3 z4; have f0 := k0.frozen 0; have f1 := k0.frozen 1; have f2 := k0.frozen 2; have f3 := k0.frozen 3; have f4 := k0.frozen 4; have K1 := hide k1; have K0 := hide k0; clear k0 k1))
              obtain ⟨FB, G0, G1, G2, G3, G4⟩ := tk_end K0.out KW.out (.int .i64 1) (.string X) (.string ⟨#[]⟩) (.slice a m cap) (.int .i64 (p : Int))
              unfold st5 at FB G0 G1 G2 G3 G4
              exact bodyPost_ret (v := .tuple #[.agg #[.int .i64 1, .string X, .string ⟨#[]⟩, .slice a m cap, .int .i64 (p : Int)], .int .i64 0, .bool false]) (by simp [results, Tryd.results23, go_sem, G0, G1, G2, G3, G4]) rfl ⟨FB, _, _, _, _, _, _, _, _, rfl⟩
          | some r3 =>
            obtain ⟨x1, t1, r1⟩ := r3
            rw [hA] at CA4
            have CAN := hide CA4
            have hv4 : Vt (s.data.toList.drop p4) := by rw [g3]; exact vt_bk k8
            obtain ⟨⟨u, hu, _⟩, hlt1, hvr, _⟩ := atR_str hv4 hA
            obtain ⟨s1, s2, s3⟩ := suf_at (by omega) hu
            rw [List.length_drop, size_l] at hlt1
            by_cases hq : p4 = q ∨ m = 16
            · have hR := k7.c n62 n47 (by rw [← g3, List.length_drop, List.length_drop, size_l, HM.out]; omega)
              subst hR
              have hr := HRR.out
              subst hr
              by_cases hq2 : p4 = q
              · have hD' := hqi true (decide_eq_true hq2)
                clear HRR k3 k4 k5 k6 k7 k8 g3 HK CC n62 n47 e47 e62 hA CA CA4 hqi hq hq2 hv4 hu hlt1 hvr s1 s2 s3
                go_wp2_with (first
                  | (go_at_call 44; refine (CBq.out _).mono ?_; rintro e w1 ⟨rfl, hw⟩; subst hw)
                  | (go_at_call 46; refine (CAN.out _).mono ?_; rintro e wb ⟨hb, rfl⟩; obtain ⟨k0, k1⟩ := al_tk HW0.out HW1.out hb (.cells #[.string ⟨x1.toArray⟩, .string ⟨t1.toArray⟩] 47); have KW := hide (HWB.out.trans ((hb.alloc hb.size (.cells #[.string ⟨x1.toArray⟩, .string ⟨t1.toArray⟩] 47)).mono HWB.out.size)); have KR := hide (K6.out.below (hb.alloc hb.size (.cells #[.string ⟨x1.toArray⟩, .string ⟨t1.toArray⟩] 47))); have KA := hide (Blk.new wb #[.string ⟨x1.toArray⟩, .string ⟨t1.toArray⟩] 47); clear hb; have a0 := k1.cell 0; have a1 := k1.cell 1; have a2 := k1.cell 2; have a3 := k1.cell 3; have a4 := k1.cell 4; have z0 := k0.cell 0; have z1 := k0.cell 1; have z2 := k0.cell 2; have z3 := k0.cell 3; have z4 := k0.cell 4; simp at a0 a1 a2 a3 a4 z0 z1 z2 z3 z4; have f0 := k0.frozen 0; have f1 := k0.frozen 1; have f2 := k0.frozen 2; have f3 := k0.frozen 3; have f4 := k0.frozen 4; have K1 := hide k1; have K0 := hide k0; clear k0 k1))
                obtain ⟨FB, G0, G1, G2, G3, G4⟩ := tk_end K0.out KW.out (.int .i64 1) (.string X) (.string ⟨#[]⟩) (.slice a m cap) (.int .i64 (p : Int))
                unfold st5 at FB G0 G1 G2 G3 G4
                exact bodyPost_ret (v := .tuple #[.agg #[.int .i64 1, .string X, .string ⟨#[]⟩, .slice a m cap, .int .i64 (p : Int)], .int .i64 0, .bool false]) (by simp [results, Tryd.results23, go_sem, G0, G1, G2, G3, G4]) rfl ⟨FB, _, _, _, _, _, _, _, _, rfl⟩
              · have hD' := hqi false (decide_eq_false hq2)
                have h16 : ((m : Int) == 16) = true := by rw [beq_iff_eq]; omega
                clear HRR k3 k4 k5 k6 k7 k8 g3 HK CC n62 n47 e47 e62 hA CA CA4 hqi hq hq2 hv4 hu hlt1 hvr s1 s2 s3
                go_wp2_with (first
                  | (go_at_call 44; refine (CBq.out _).mono ?_; rintro e w1 ⟨rfl, hw⟩; subst hw)
                  | (go_at_call 46; refine (CAN.out _).mono ?_; rintro e wb ⟨hb, rfl⟩; obtain ⟨k0, k1⟩ := al_tk HW0.out HW1.out hb (.cells #[.string ⟨x1.toArray⟩, .string ⟨t1.toArray⟩] 47); have KW := hide (HWB.out.trans ((hb.alloc hb.size (.cells #[.string ⟨x1.toArray⟩, .string ⟨t1.toArray⟩] 47)).mono HWB.out.size)); have KR := hide (K6.out.below (hb.alloc hb.size (.cells #[.string ⟨x1.toArray⟩, .string ⟨t1.toArray⟩] 47))); have KA := hide (Blk.new wb #[.string ⟨x1.toArray⟩, .string ⟨t1.toArray⟩] 47); clear hb; have a0 := k1.cell 0; have a1 := k1.cell 1; have a2 := k1.cell 2; have a3 := k1.cell 3; have a4 := k1.cell 4; have z0 := k0.cell 0; have z1 := k0.cell 1; have z2 := k0.cell 2; have z3 := k0.cell 3; have z4 := k0.cell 4; simp at a0 a1 a2 a3 a4 z0 z1 z2 z3 z4; have f0 := k0.frozen 0; have f1 := k0.frozen 1; have f2 := k0.frozen 2; have f3 := k0.frozen 3; have f4 := k0.frozen 4; have K1 := hide k1; have K0 := hide k0; clear k0 k1))
                obtain ⟨FB, G0, G1, G2, G3, G4⟩ := tk_end K0.out KW.out (.int .i64 1) (.string X) (.string ⟨#[]⟩) (.slice a m cap) (.int .i64 (p : Int))
                unfold st5 at FB G0 G1 G2 G3 G4
                exact bodyPost_ret (v := .tuple #[.agg #[.int .i64 1, .string X, .string ⟨#[]⟩, .slice a m cap, .int .i64 (p : Int)], .int .i64 0, .bool false]) (by simp [results, Tryd.results23, go_sem, G0, G1, G2, G3, G4]) rfl ⟨FB, _, _, _, _, _, _, _, _, rfl⟩
            · have hD' := hqi false (decide_eq_false (by omega))
              have h16 : ((m : Int) == 16) = false := by rw [beq_eq_false_iff_ne]; omega
              have hcond : (bk (s.data.toList.drop q)).length < (s.data.toList.drop q).length ∧ ps.length < 16 := by
                rw [← g3, List.length_drop, List.length_drop, size_l, HM.out]
                have := HM.out
                omega
              have hE := fun h5 => k7.e n62 n47 hcond (by rw [← g3]; exact hA) h5
              have hF := fun h5 => k7.f k8 n62 n47 hcond (by rw [← g3]; exact hA) h5
              have HE := hide hE
              have HF := hide hF
              have HS := hide (And.intro s1 (And.intro hvr (show q < s.size - r1.length ∧ s.size - r1.length ≤ s.size ∧ p2 ≤ s.size - r1.length ∧ m < 16 by have := HM.out; omega)))
              clear k3 k4 k5 k6 k7 k8 g3 HK CC n62 n47 e47 e62 hA CA CA4 hqi hq hv4 hu hlt1 hvr s1 s2 s3 hcond hE hF
              go_wp2_with (first
                | (go_at_call 44; refine (CBq.out _).mono ?_; rintro e w1 ⟨rfl, hw⟩; subst hw)
                | (go_at_call 46; refine (CAN.out _).mono ?_; rintro e wb ⟨hb, rfl⟩; obtain ⟨k0, k1⟩ := al_tk HW0.out HW1.out hb (.cells #[.string ⟨x1.toArray⟩, .string ⟨t1.toArray⟩] 47); have KW := hide (HWB.out.trans ((hb.alloc hb.size (.cells #[.string ⟨x1.toArray⟩, .string ⟨t1.toArray⟩] 47)).mono HWB.out.size)); have KR := hide (K6.out.below (hb.alloc hb.size (.cells #[.string ⟨x1.toArray⟩, .string ⟨t1.toArray⟩] 47))); have KA := hide (Blk.new wb #[.string ⟨x1.toArray⟩, .string ⟨t1.toArray⟩] 47); clear hb; have a0 := k1.cell 0; have a1 := k1.cell 1; have a2 := k1.cell 2; have a3 := k1.cell 3; have a4 := k1.cell 4; have z0 := k0.cell 0; have z1 := k0.cell 1; have z2 := k0.cell 2; have z3 := k0.cell 3; have z4 := k0.cell 4; simp at a0 a1 a2 a3 a4 z0 z1 z2 z3 z4; have f0 := k0.frozen 0; have f1 := k0.frozen 1; have f2 := k0.frozen 2; have f3 := k0.frozen 3; have f4 := k0.frozen 4; have K1 := hide k1; have K0 := hide k0; clear k0 k1))
              generalize (wb.alloc (.cells #[.string ⟨x1.toArray⟩, .string ⟨t1.toArray⟩] 47)) = wa at K0 K1 KA KW KR a0 a1 a2 a3 a4 z0 z1 z2 z3 z4 f0 f1 f2 f3 f4 ⊢
              generalize wb.heap.size = ab at KA ⊢
              obtain ⟨a', cap', he, hAL, _⟩ := KR.out.lst
              injection he with he1 he2 he3
              subst he1
              clear he2 he3
              have HAL := hide hAL
              clear hAL
              go_loopw [14] (fun vj wz => ∃ j : Nat, vj = .int .i64 j ∧ Hid (j ≤ m ∧ (ps.take j).any (fun p => p.1 == x1) = false ∧ Below wa.heap.size wa wz)) (fun vj _ => m - (RowKit.intOf vj).toNat)
              case atStart => exact ⟨0, rfl, hide ⟨by omega, by simp, Below.refl _ _⟩⟩
              case round =>
                obtain ⟨j, rfl, HJ⟩ := hrel
                obtain ⟨j1, j2, j3⟩ := HJ.out
                clear HJ a0 a1 a2 a3 a4 z0 z1 z2 z3 z4 f0 f1 f2 f3 f4
                have k1 := K1.out.below j3
                have k0 := K0.out.below j3
                have a0 := k1.cell 0; have a1 := k1.cell 1; have a2 := k1.cell 2; have a3 := k1.cell 3; have a4 := k1.cell 4
                have z0 := k0.cell 0; have z1 := k0.cell 1; have z2 := k0.cell 2; have z3 := k0.cell 3; have z4 := k0.cell 4
                have d0 := (KA.out.below j3).cell 0; have d1 := (KA.out.below j3).cell 1
                simp at a0 a1 a2 a3 a4 z0 z1 z2 z3 z4 d0 d1
                have f0 := k0.frozen 0; have f1 := k0.frozen 1; have f2 := k0.frozen 2; have f3 := k0.frozen 3; have f4 := k0.frozen 4
                have J3 := hide j3
                by_cases hj : j < m
                · have hj' : (j : Int) < (m : Int) := by omega
                  rcases HAL.out.below j3 with h0 | ⟨b1, o1, rfl, hb1, hc1⟩
                  · have := HM.out; rw [h0] at this; simp at this; omega
                  obtain ⟨c0, c1⟩ := hc1 j (by have := HM.out; omega)
                  have htk : ps.take (j + 1) = ps.take j ++ [ps.getD j ([], [])] := by
                    rw [List.take_succ_eq_append_getElem (by have := HM.out; omega), List.getD_eq_getElem?_getD, List.getElem?_eq_getElem (by have := HM.out; omega)]; rfl
                  have hmem : ps.getD j ([], []) ∈ ps := by rw [List.getD_eq_getElem?_getD, List.getElem?_eq_getElem (by have := HM.out; omega)]; exact List.getElem_mem _
                  have hbq := str_beq (ps.getD j ([], [])).1 x1
                  generalize ps.getD j ([], []) = pr at *
                  obtain ⟨q1, q2⟩ := pr
                  simp only at c0 c1 hbq hmem htk
                  generalize (⟨q1.toArray⟩ : ByteArray) = Q1 at c0 hbq
                  generalize (⟨q2.toArray⟩ : ByteArray) = Q2 at c1
                  generalize (⟨x1.toArray⟩ : ByteArray) = Y1 at d0 hbq
                  generalize (⟨t1.toArray⟩ : ByteArray) = Y2 at d1
                  cases hq : q1 == x1
                  · rw [hq] at hbq
                    have K := hide (show (ps.take (j + 1)).any (fun p => p.1 == x1) = false by rw [htk, List.any_append, j2]; simp [hq])
                    clear j2 j3 htk hmem hq hc1 k0 k1
                    go_wp2_with fail
                    go_quiet (fail)
                    go_wp2_with fail
                    go_roundw
                    case rel => exact ⟨j + 1, by go_num, hide ⟨by omega, K.out, J3.out.trans (below_drewN' _ _ |>.mono J3.out.size)⟩⟩
                    case measure => simp [RowKit.intOf]; omega
                  · rw [hq] at hbq
                    have hR := HE.out (by unfold nmd; rw [List.any_eq_true]; exact ⟨_, hmem, hq⟩)
                    subst hR
                    have hr := HRR.out
                    subst hr
                    clear j2 j3 htk hmem hq hc1 k0 k1 HRR HE HF
                    go_wp2_with fail
                    go_quiet (fail)
                    go_wp2_with fail
                    obtain ⟨FB, G0, G1, G2, G3, G4⟩ := tk_end (K0.out.below (J3.out.trans ((below_drewN' _ nq).mono J3.out.size))) (KW.out.trans ((J3.out.trans ((below_drewN' _ nq).mono J3.out.size)).mono KW.out.size)) (.int .i64 1) (.string X) (.string ⟨#[]⟩) (.slice (some ⟨b1, o1, none⟩) m cap) (.int .i64 (p : Int))
                    unfold st5 at FB G0 G1 G2 G3 G4
                    exact bodyPost_ret (v := .tuple #[.agg #[.int .i64 1, .string X, .string ⟨#[]⟩, .slice (some ⟨b1, o1, none⟩) m cap, .int .i64 (p : Int)], .int .i64 0, .bool false]) (by simp [results, Tryd.results23, go_sem, G0, G1, G2, G3, G4]) rfl ⟨FB, _, _, _, _, _, _, _, _, rfl⟩
                · have hj' : ¬ (j : Int) < (m : Int) := by omega
                  rw [List.take_of_length_le (by have := HM.out; omega)] at j2
                  have hO := HF.out j2
                  have HO := hide hO
                  obtain ⟨an, nn, cn, w2, hr2, c3, c4x, n0, n1, nB, nR⟩ := rl_app k0 k1 (KW.out.trans (j3.mono KW.out.size)) (KR.out.below j3) (by have := HM.out; have := HS.out.2.2; omega) x1 t1
                  generalize (⟨x1.toArray⟩ : ByteArray) = Y1 at d0 hr2
                  generalize (⟨t1.toArray⟩ : ByteArray) = Y2 at d1 hr2
                  have HR2 := hide hr2
                  have HN := hide (And.intro n0 (And.intro n1 (And.intro nB nR)))
                  clear j2 j3 k0 k1 hO hr2 n0 n1 nB nR HE HF
                  go_wp2_with (first
                    | (at_builtin; refine Lib.wpList_append_run _ rfl _ _ _ _ rfl _ _ rfl rfl _ _ HR2.out ?_))
                  go_roundw
                  case rel => exact ⟨s.size - r1.length, ps ++ [(x1, t1)], _, rfl, hide ⟨HS.out.2.2.2.1, HS.out.2.2.2.2.1, HN.out.1, HN.out.2.1, HN.out.2.2.1, HN.out.2.2.2, by rw [HS.out.1]; exact HO.out, by rw [HS.out.1]; exact HS.out.2.1, by rw [List.length_append]; have := HM.out; have := HS.out.2.2.2.2.2; simp; omega⟩⟩
                  case measure => have := HS.out.2.2; simp [RowKit.intOf]; omega
    · have c4' : ¬ (p4 : Int) < (s.size : Int) := by omega
      have c4d : decide (s.size ≤ p4) = true := decide_eq_true (by omega)
      have hR := k7.d (by rw [← g3]; exact at_hpe s p4 62 _ rfl (by omega)) (by rw [← g3, List.drop_eq_nil_of_le (by rw [size_l]; omega)]; rfl) (by rw [← g3, List.drop_eq_nil_of_le (by rw [size_l]; omega)]; rfl)
      subst hR
      have hr := HRR.out
      subst hr
      clear HRR k3 k4 k5 k6 k7 k8 g3 HK CC
      go_wp2_with (first
        | (go_at_call 44; refine (CBq.out _).mono ?_; rintro e w1 ⟨rfl, hw⟩; subst hw))
      obtain ⟨FB, G0, G1, G2, G3, G4⟩ := tk_end HW0.out HWB.out (.int .i64 1) (.string X) (.string ⟨#[]⟩) (.slice a m cap) (.int .i64 (p : Int))
      unfold st5 at FB G0 G1 G2 G3 G4
      exact bodyPost_ret (v := .tuple #[.agg #[.int .i64 1, .string X, .string ⟨#[]⟩, .slice a m cap, .int .i64 (p : Int)], .int .i64 0, .bool false]) (by simp [results, Tryd.results23, go_sem, G0, G1, G2, G3, G4]) rfl ⟨FB, _, _, _, _, _, _, _, _, rfl⟩
end Go.Proofs.YtpmdekhjodhdmaaDoor.K17
