/-
  The reference's value.
-/
import Derived.Test.YtpmdekhjodhdmaaDoorK17Rd
namespace Go.Proofs.YtpmdekhjodhdmaaDoor.K17
open Go.RowKit Go.Proofs.YtpmdekhjodhdmaaDoor
open Go.Lib
set_option linter.unusedVariables false
set_option linter.unusedSimpArgs false
set_option maxRecDepth 100000

/- a value as the reference reads it: controls apart -/
def rvF : Nat → List UInt8 → List UInt8 → Option (List UInt8 × List UInt8)
  | 0, _, _ => none
  | f + 1, l, acc => match l with
    | [] => none
    | b :: r => if b = 34 then some (acc, r) else if b = 60 then none else if b = 38 then (match ent (b :: r) with
      | none => none
      | some (c, n) => rvF f ((b :: r).drop n) (acc ++ e8 c)) else rvF f r (acc ++ [b])
def rv (l : List UInt8) : Option (List UInt8 × List UInt8) := rvF (l.length + 1) l []
def RV (l acc : List UInt8) (R : Option (List UInt8 × List UInt8)) : Prop := ∃ f, l.length < f ∧ rvF f l acc = R
theorem RV.start (l : List UInt8) : RV l [] (rv l) := ⟨_, Nat.lt_succ_self _, rfl⟩
theorem RV.nil {acc : List UInt8} {R : Option (List UInt8 × List UInt8)} (h : RV [] acc R) : R = none := by
  obtain ⟨f, _, h⟩ := h
  cases f <;> exact h.symm
theorem RV.unf {b : UInt8} {r acc : List UInt8} {R : Option (List UInt8 × List UInt8)} (h : RV (b :: r) acc R) : ∃ f, (b :: r).length ≤ f ∧ rvF (f + 1) (b :: r) acc = R := by
  obtain ⟨f, h1, h2⟩ := h
  obtain ⟨g, rfl⟩ : ∃ g, f = g + 1 := ⟨f - 1, by omega⟩
  exact ⟨g, by omega, h2⟩
theorem RV.q {r acc : List UInt8} {R : Option (List UInt8 × List UInt8)} (h : RV (34 :: r) acc R) : R = some (acc, r) := by
  obtain ⟨f, _, h⟩ := h.unf; exact h.symm
theorem RV.lt {r acc : List UInt8} {R : Option (List UInt8 × List UInt8)} (h : RV (60 :: r) acc R) : R = none := by
  obtain ⟨f, _, h⟩ := h.unf; exact h.symm
theorem RV.no {r acc : List UInt8} {R : Option (List UInt8 × List UInt8)} (h : RV (38 :: r) acc R) (he : ent (38 :: r) = none) : R = none := by
  obtain ⟨f, _, h⟩ := h.unf
  unfold rvF at h
  simp only at h
  rw [if_neg (by decide), if_neg (by decide), if_pos trivial, he] at h
  exact h.symm
theorem RV.en {r acc : List UInt8} {c n : Nat} {R : Option (List UInt8 × List UInt8)} (h : RV (38 :: r) acc R) (he : ent (38 :: r) = some (c, n)) : RV ((38 :: r).drop n) (acc ++ e8 c) R := by
  obtain ⟨f, hf, h⟩ := h.unf
  unfold rvF at h
  simp only at h
  rw [if_neg (by decide), if_neg (by decide), if_pos trivial, he] at h
  have := ent_bd he
  exact ⟨f, by rw [List.length_drop]; omega, h⟩
theorem RV.on {b : UInt8} {r acc : List UInt8} {R : Option (List UInt8 × List UInt8)} (h : RV (b :: r) acc R) (h1 : b ≠ 34) (h2 : b ≠ 60) (h3 : b ≠ 38) : RV r (acc ++ [b]) R := by
  obtain ⟨f, hf, h⟩ := h.unf
  unfold rvF at h
  simp only at h
  rw [if_neg h1, if_neg h2, if_neg h3] at h
  exact ⟨f, by rw [List.length_cons] at hf; omega, h⟩
def VaR (w : World) (n : Nat) (R : Option (List UInt8 × List UInt8)) (e : Ending) (w' : World) : Prop := Below w.heap.size w w' ∧ match R with
  | some (t, r) => e = .returned (.tuple #[.string ⟨t.toArray⟩, .int .i64 ((n - r.length : Nat) : Int), .bool true])
  | none => e = .returned (.tuple #[.string ⟨#[]⟩, .int .i64 0, .bool false])
theorem bne_nat {b : UInt8} {n : Nat} (hn : n < 256) (h : ((b.toNat : Int) == (n : Int)) = false) : b ≠ UInt8.ofNat n := by
  rintro rfl
  rw [beq_eq_false_iff_ne] at h
  exact h (by rw [show (UInt8.ofNat n).toNat = n from bt_nat n hn])
/- one byte appended -/
theorem app_b {W : World} {B : Nat} {v : Value} {ys : List UInt8} (x : UInt8) (h : BRow W B v ys) (hB : B ≤ W.heap.size) (hl : ys.length ≤ 1000000) :
    ∃ v' w2, (Builtin.append_ #[56, 56] 56 #[v, .slice (some ⟨W.heap.size, 0, none⟩) 1 1]).run Tryd.prog (W.alloc (.cells #[.int .u8 (x.toNat : Int)] 5)) = .ok v' w2 ∧ BRow w2 B v' (ys ++ [x]) ∧ Below B W w2 ∧ ∃ a n c, v' = .slice a n c := by
  obtain ⟨i0, hi, hz0, hz1, hz2⟩ := info_parts info_u8
  obtain ⟨gg, cap, w2, hr, ho, hg, hat, _⟩ := run_append_lies (P := Tryd.prog) (W.alloc (.cells #[.int .u8 (x.toNat : Int)] 5)) 56 56 B 5 i0 _ 1 1 Tryd.underlying56 hi hz0 hz1 hz2 rfl (by decide) v ys.length (ys.map bcell) (World.ownsRow.alloc h _) ⟨W.heap.size, 0, none⟩ 1 1 [.int .u8 (x.toNat : Int)] (by simp)
    (fun j u hu => by rw [Go.WideShapes.add_plain, Nat.zero_add, World.cell?_alloc_at _ _ _ _ rfl]; simpa using hu) (by intro u hu; simp at hu; subst hu; rfl) (by decide) (by unfold maxLen; omega) (by omega) (by simp; omega) (W.heap.size + 1) (by simp)
  refine ⟨_, w2, hr, ?_, ((Below.refl B W).alloc hB _).grown hg (by simp; omega) fun k hk' => (World.ownsRow.lt h k hk').1, _, _, _, rfl⟩
  unfold BRow
  rw [List.map_append, List.length_append]
  exact ho
set_option maxHeartbeats 8000000 in
theorem rvalue_any (s : ByteArray) (p : Nat) (w : World) (hs : s.size ≤ 65536) (hp' : p ≤ s.size) :
    Calls Tryd.prog 64 #[.string s, .int .i64 (p : Int)] w (VaR w s.size (rv (s.data.toList.drop p))) := by
  have hs' : (s.size : Int) ≤ 65536 := by omega
  have hpi : (p : Int) ≤ (s.size : Int) := by omega
  have HL := hide (size_l s)
  have HDR := hide (show ∀ n (h : n < s.size), s.data.toList.drop n = s[n] :: s.data.toList.drop (n + 1) from fun n h => by
    rw [List.drop_eq_getElem_cons (by rw [size_l]; exact h)]; congr 1)
  obtain ⟨R, hR⟩ : ∃ R, rv (s.data.toList.drop p) = R := ⟨_, rfl⟩
  rw [hR]
  have HRV := hide (show RV (s.data.toList.drop p) [] R by rw [← hR]; exact RV.start _)
  have HS := hide hs
  have CE := hide (fun n w h1 h2 => rentity_any s n w hs h1 h2)
  obtain ⟨i0, hi, hz0, hz1, hz2⟩ := info_parts info_u8
  have HI := hide hi
  have HI0 := hide hz0
  have HI1 := hide hz1
  have HI2 := hide hz2
  clear hi hz0 hz1 hz2 hR hs
  go_enter Tryd.func64, Tryd.ntmps64
  go_wp2_with fail
  go_loopw [1, 7] (fun va vb wr => ∃ (n : Nat) (acc : List UInt8), va = .int .i64 n ∧ Hid (n ≤ s.size ∧ acc.length ≤ 4 * n ∧ BRow wr w.heap.size vb acc ∧ Below w.heap.size w wr ∧ RV (s.data.toList.drop n) acc R)) (fun va _ _ => s.size - (RowKit.intOf va).toNat)
  case atStart => exact ⟨p, [], rfl, hide ⟨by omega, by simp, BRow.nil _ _, Below.refl _ _, HRV.out⟩⟩
  case round =>
    obtain ⟨n, acc, rfl, HK⟩ := hrel
    obtain ⟨k1, k2, k3, k4, k5⟩ := HK.out
    clear HK HRV
    by_cases hlt : n < s.size
    · have hlt' : (n : Int) < (s.size : Int) := by omega
      rw [HDR.out n hlt] at k5
      have K3 := hide k3
      have K4 := hide k4
      have hn0 : (0 : Int) ≤ (n : Int) := by omega
      by_cases c1 : s[n].toNat = 34
      · have f1 : ((s[n].toNat : Int) == 34) = true := by rw [beq_iff_eq]; omega
        have hb : s[n] = 34 := UInt8.toNat_inj.1 c1
        rw [hb] at k5
        have hr := k5.q
        subst hr
        have hcv := k3.text
        have hne : ((n : Int) == (s.size : Int)) = false := by rw [beq_eq_false_iff_ne]; omega
        have HX := hide (show s.size - (s.data.toList.drop (n + 1)).length = n + 1 by rw [List.length_drop, HL.out]; omega)
        clear k3 k4 k5 c1 hb
        go_wp2_with fail
        go_ret3
        exact ⟨K4.out, by show _ = Ending.returned (.tuple #[.string ⟨acc.toArray⟩, .int .i64 ((s.size - (s.data.toList.drop (n + 1)).length : Nat) : Int), .bool true]); rw [HX.out]; rfl⟩
      · have f1 : ((s[n].toNat : Int) == 34) = false := by rw [beq_eq_false_iff_ne]; omega
        by_cases c2 : s[n].toNat = 60
        · have f2 : ((s[n].toNat : Int) == 60) = true := by rw [beq_iff_eq]; omega
          have hb : s[n] = 60 := UInt8.toNat_inj.1 c2
          rw [hb] at k5
          have hr := k5.lt
          subst hr
          clear k3 k4 k5 c1 c2 hb
          go_wp2_with fail
          go_ret3
          exact ⟨K4.out, rfl⟩
        · have f2 : ((s[n].toNat : Int) == 60) = false := by rw [beq_eq_false_iff_ne]; omega
          by_cases c3 : s[n].toNat = 38
          · have f3 : ((s[n].toNat : Int) == 38) = true := by rw [beq_iff_eq]; omega
            have hb : s[n] = 38 := UInt8.toNat_inj.1 c3
            have C := CE.out n wr hlt hb
            rw [hb] at k5
            rw [HDR.out n hlt, hb] at C
            cases he : ent (38 :: s.data.toList.drop (n + 1)) with
            | none =>
              have hr := k5.no he
              subst hr
              rw [he] at C
              have C := hide C
              clear k3 k4 k5 c1 c2 c3 hb he
              go_wp2_with (first | (go_at_call 47; refine C.out.mono ?_; rintro e w1 ⟨h1, rfl⟩; have H1 := hide h1; clear h1))
              go_ret3
              exact ⟨K4.out.trans (H1.out.mono K4.out.size), rfl⟩
            | some u =>
              obtain ⟨c, m⟩ := u
              have hr := k5.en he
              have hbd := ent_bd he
              rw [List.length_cons, List.length_drop, HL.out] at hbd
              have hdd : (38 :: s.data.toList.drop (n + 1)).drop m = s.data.toList.drop (n + m) := by rw [← hb, ← HDR.out n hlt, List.drop_drop]
              rw [hdd] at hr
              rw [he] at C
              have C : Calls Tryd.prog 47 #[.string s, .int .i64 (n : Int)] wr fun e w' => Below wr.heap.size wr w' ∧ e = .returned (.tuple #[.string ⟨(e8 c).toArray⟩, .int .i64 ((n + m : Nat) : Int), .bool true]) := C
              have C := hide C
              have HR := hide hr
              have HB := hide (show n + m ≤ s.size ∧ 2 ≤ m by omega)
              have HA := hide (show (acc ++ e8 c).length ≤ 4 * (n + m) by rw [List.length_append]; have := (code8.len c).2; omega)
              have HEL := hide (show acc.length + (⟨(e8 c).toArray⟩ : ByteArray).size ≤ 300000 by rw [size_mk']; have := (code8.len c).2; have := HS.out; omega)
              obtain ⟨M, hM⟩ : ∃ M, n + m = M := ⟨_, rfl⟩
              rw [hM] at C HR HB HA
              have hMi : (M : Int) ≤ 65536 := by have := HB.out.1; omega
              have HMM := hide hM
              clear k3 k4 k5 c1 c2 c3 hb he hr hbd hdd hM
              go_wp2_with (first
                | (go_at_call 47; refine C.out.mono ?_; rintro e w1 ⟨h1, rfl⟩; have H1 := hide h1; clear h1)
                | (at_builtin; refine Lib.wpList_append_own_string _ rfl _ _ 56 9 rfl w.heap.size 5 i0 Tryd.underlying56 Tryd.underlying9 HI.out HI0.out HI1.out HI2.out _ _ _ rfl (own_below K3.out K4.out H1.out) ⟨(e8 c).toArray⟩ rfl ?d1 ?d2 ?d3 ?_))
              case d1 => have := HEL.out; unfold maxLen; omega
              case d2 => have := HEL.out; omega
              case d3 => exact Nat.le_trans K4.out.size H1.out.size
              intro v3 w3 hown3 hgrow3 _
              have HB3 := hide (show Below w.heap.size w w3 from (K4.out.trans (H1.out.mono K4.out.size)).grown hgrow3 (Nat.le_trans K4.out.size H1.out.size) (fun k hk => (World.ownsRow.lt K3.out k hk).1))
              have HO3 := hide (show BRow w3 w.heap.size v3 (acc ++ e8 c) by
                unfold BRow
                rw [strCells_bytes] at hown3
                rw [List.map_append, List.length_append]
                exact hown3)
              clear hown3 hgrow3
              go_wp2
              go_roundw
              case rel => exact ⟨M, acc ++ e8 c, rfl, hide ⟨HB.out.1, HA.out, HO3.out, HB3.out, HR.out⟩⟩
              case measure => have := HB.out; have := HMM.out; simp [RowKit.intOf]; omega
          · have f3 : ((s[n].toNat : Int) == 38) = false := by rw [beq_eq_false_iff_ne]; omega
            have hr := k5.on (fun h => c1 (by rw [h]; rfl)) (fun h => c2 (by rw [h]; rfl)) (fun h => c3 (by rw [h]; rfl))
            have HR := hide hr
            have HAL := hide k2
            clear k2 k3 k4 k5 c1 c2 c3 hr
            obtain ⟨va, w2, hra, hrow, hbel, a2, n2, c2', hv2⟩ := app_b s[n] K3.out K4.out.size (by have := HAL.out; have := HS.out; omega)
            subst hv2
            have HRA := hide hra
            have HROW := hide hrow
            have HBEL := hide (K4.out.trans hbel)
            have HA2 := hide (show (acc ++ [s[n]]).length ≤ 4 * (n + 1) by rw [List.length_append]; have := HAL.out; simp; omega)
            clear hra hrow hbel
            go_wp2_with (first | (at_builtin; refine Lib.wpList_append_run _ rfl _ _ _ _ rfl _ _ rfl rfl _ _ HRA.out ?_))
            go_roundw
            case rel => exact ⟨n + 1, acc ++ [s[n]], by go_num, hide ⟨by omega, HA2.out, HROW.out, HBEL.out, HR.out⟩⟩
            case measure => simp [RowKit.intOf]; omega
    · have hlt' : ¬ (n : Int) < (s.size : Int) := by omega
      obtain rfl : n = s.size := by omega
      rw [List.drop_eq_nil_of_le (by rw [HL.out]; omega)] at k5
      have hr := k5.nil
      subst hr
      have K4 := hide k4
      have hee : ((s.size : Int) == (s.size : Int)) = true := by simp
      clear k3 k4 k5
      go_wp2_with fail
      go_ret3
      exact ⟨K4.out, rfl⟩
end Go.Proofs.YtpmdekhjodhdmaaDoor.K17
