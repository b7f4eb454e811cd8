/-
  What the reference's simple answers.
-/
import Derived.Test.YtcbmjoocehhhnaaDoorG10Qa
namespace Go.Proofs.YtcbmjoocehhhnaaDoor
open Go.RowKit Go.Deep
set_option linter.unusedVariables false
set_option linter.unusedSimpArgs false

def SmR (w : World) (R : Option Nat) (e : Ending) (w' : World) : Prop := match R with
  | some p => e = .returned (.tuple #[.agg #[.int .i64 (p : Int), .slice none 0 0, .slice none 0 0], .bool true]) ∧ Below w.heap.size w w'
  | none => ∃ p : Nat, p ≤ 65536 ∧ e = .returned (.tuple #[.agg #[.int .i64 (p : Int), .slice none 0 0, .slice none 0 0], .bool false]) ∧ Below w.heap.size w w'
theorem rs_fin {R : Ending → World → Prop} {a : Act} {V : World} {B : Nat} {x y z : Value} {t : Bool} (hk : Blk V B #[x, y, z] 40) (h4 : a.tmps[4]?.getD undef = .pointer (some ⟨B, 0, none⟩)) (h5 : a.tmps[5]?.getD undef = .bool t) (hd : a.defers = []) (h : R (.returned (.tuple #[.agg #[x, y, z], .bool t])) V) :
    bodyPost Tryd.prog Tryd.f36 R Exit.ret a V := by
  obtain ⟨⟨f0, f1, f2⟩, _⟩ := hk.three
  refine bodyPost_ret (v := .tuple #[.agg #[x, y, z], .bool t]) ?_ hd h
  simp [results, Tryd.results36, go_sem, f0, f1, f2, h4, h5]
theorem sim_short {l : List UInt8} {c : Nat} (h : ¬ 12 + 2 * c ≤ l.length) : simV l c = none := by unfold simV; rw [if_neg (fun hh => h hh.1)]
theorem sim_rise {l : List UInt8} {c : Nat} (h : riseB l c = false) : simV l c = none := by unfold simV; rw [if_neg (fun hh => by rw [h] at hh; cases hh.2)]
def endV (l : List UInt8) (P : Nat) : Option (Nat × Nat) → Option Nat
  | none => none
  | some (a, z) => if tailB l (a + z) then some P else none
theorem sim_go {l : List UInt8} {c : Nat} (h : 12 + 2 * c ≤ l.length) (h2 : riseB l c = true) : simV l c = endV l (n2 l (8 + 2 * c) + 1) (flg l l.length (n2 l (8 + 2 * c) + 1) (n2 l (8 + 2 * c) + 1) (12 + 2 * c + n2 l (10 + 2 * c)) 0) := by
  unfold simV endV
  rw [if_pos ⟨h, h2⟩]
  cases flg l l.length (n2 l (8 + 2 * c) + 1) (n2 l (8 + 2 * c) + 1) (12 + 2 * c + n2 l (10 + 2 * c)) 0 <;> rfl
theorem wrap_mul (r A B P : Nat) (hr : r ≤ 255) (hA : A ≤ 2) (hB : B ≤ 2) (hP : P = (r + 1) * (A + B)) : wrap64 ((1 + (r : Int)) * ((A : Int) + (B : Int))) = (P : Int) ∧ P ≤ 1024 ∧ (1 + (r : Int)) * ((A : Int) + (B : Int)) = (P : Int) := by
  have h1 : (r + 1) * (A + B) ≤ 256 * 4 := Nat.mul_le_mul (by omega) (by omega)
  have h2 : (1 + (r : Int)) * ((A : Int) + (B : Int)) = (P : Int) := by rw [hP]; push_cast; rw [Int.add_comm 1 (r : Int)]
  rw [h2]
  refine ⟨?_, by omega, rfl⟩
  have : (0 : Int) ≤ (P : Int) ∧ (P : Int) ≤ 1024 := by omega
  unfold wrap64
  omega
set_option maxRecDepth 8000 in
set_option maxHeartbeats 4000000 in
theorem rsimple_any (s : ByteArray) (c : Nat) (w : World) (hs : s.size ≤ 1000000) (hc : 1 ≤ c) (hc2 : c ≤ 32767) (hN : 10 ≤ s.size) :
    Calls Tryd.prog 36 #[.string s, .int .i64 (c : Int)] w (SmR w (simV s.data.toList c)) := by
  obtain ⟨R, hR⟩ : ∃ R, simV s.data.toList c = R := ⟨_, rfl⟩
  rw [hR]
  have HR := hide hR
  have hs' : (s.size : Int) ≤ 1000000 := by omega
  have c1 : (1 : Int) ≤ (c : Int) := by omega
  have c2 : (c : Int) ≤ 32767 := by omega
  have CU := hide (fun (k : Nat) (z : Int) (w : World) (hz : z = (k : Int)) (h : k + 2 ≤ s.size) => ru2_any s k z w hz h (by omega))
  have CO := hide (fun (f o n : Nat) (w : World) (h1 : f ≤ 65535) (h2 : o ≤ 65535) (h3 : n ≤ 65535) => rone_any f o n w h1 h2 h3)
  have HK0 := hide (Blk.new w zs3 40)
  have HB0 : Hid (Below w.heap.size w (w.alloc (.cells zs3 40))) := hide ((Below.refl _ _).alloc (Nat.le_refl _) _)
  obtain ⟨⟨r0, r1, r2⟩, z0, z1, z2⟩ := HK0.out.three
  by_cases h12 : 12 + 2 * c ≤ s.size
  case neg =>
    have E := hide (show R = none by rw [← HR.out, sim_short (by rw [← Lib.size_eq]; exact h12)])
    have hlt : (s.size : Int) < 10 + 2 * (c : Int) + 2 := by omega
    clear hR h12
    go_enter Tryd.func36, Tryd.ntmps36
    go_upto_region 1 with (fail)
    generalize w.alloc (.cells zs3 40) = V at HK0 HB0 r0 r1 r2 z0 z1 z2 ⊢
    go_wp2_with fail
    refine rs_fin (st3 HK0.out (.int .i64 0) (.slice none 0 0) (.slice none 0 0)) rfl rfl rfl ?_
    rw [E.out]
    exact ⟨0, by omega, rfl, st3_below HB0.out (Nat.le_refl _) _ _ _⟩
  have hge : ¬ (s.size : Int) < 10 + 2 * (c : Int) + 2 := by omega
  have H12 := hide h12
  clear hR
  go_enter Tryd.func36, Tryd.ntmps36
  go_upto_region 1 with (fail)
  generalize w.alloc (.cells zs3 40) = V at HK0 HB0 r0 r1 r2 z0 z1 z2 ⊢
  go_wp2_with fail
  go_loopw [7] (fun v wr => ∃ k m : Nat, v = .int .i64 (k : Int) ∧ wr = V.drewN m ∧ Hid (1 ≤ k ∧ k ≤ c ∧ ∀ i, i + 1 < k → n2 s.data.toList (10 + 2 * i) < n2 s.data.toList (12 + 2 * i))) (fun v _ => c - (intOf v).toNat)
  case atStart => exact ⟨1, 0, rfl, rfl, hide ⟨by omega, hc, fun i hi => by omega⟩⟩
  case round =>
    obtain ⟨k, m, rfl, rfl, HV⟩ := hrel
    obtain ⟨k0, k1, k2⟩ := HV.out
    have hk0 : (1 : Int) ≤ (k : Int) := by omega
    have hk1 : (k : Int) ≤ 32767 := by omega
    have K2 := hide k2
    clear HV k2
    by_cases hk : k < c
    · have hk' : (k : Int) < (c : Int) := by omega
      obtain ⟨j, hj⟩ : ∃ j, k = j + 1 := ⟨k - 1, by omega⟩
      have HJ := hide hj
      clear hj
      have hn1 := n2_lt s.data.toList (10 + 2 * k)
      have hn2 := n2_lt s.data.toList (8 + 2 * k)
      by_cases hle : n2 s.data.toList (10 + 2 * k) ≤ n2 s.data.toList (8 + 2 * k)
      · have hle' : ((n2 s.data.toList (10 + 2 * k) : Nat) : Int) ≤ ((n2 s.data.toList (8 + 2 * k) : Nat) : Int) := by omega
        have E := hide (show R = none by
          rw [← HR.out, sim_rise]
          cases e : riseB s.data.toList c with
          | false => rfl
          | true =>
            have hj := HJ.out
            have := (rise_iff _ _).1 e j (by omega)
            rw [show 10 + 2 * k = 12 + 2 * j by omega, show 8 + 2 * k = 10 + 2 * j by omega] at hle
            omega)
        go_wp2_with fail
        refine (CU.out (10 + 2 * k) _ _ (by omega) (by omega)).mono ?_
        rintro e wy ⟨rfl, m1, hy⟩
        subst wy
        go_wp2_with fail
        refine (CU.out (8 + 2 * k) _ _ (by omega) (by omega)).mono ?_
        rintro e wy ⟨rfl, m2, hy⟩
        subst wy
        go_wp2_with fail
        refine rs_fin (st3 HK0.out (.int .i64 0) (.slice none 0 0) (.slice none 0 0)) rfl rfl rfl ?_
        rw [E.out]
        exact ⟨0, by omega, rfl, below_same (st3_below HB0.out (Nat.le_refl _) (.int .i64 0) (.slice none 0 0) (.slice none 0 0)) rfl rfl rfl rfl⟩
      · have hle' : ¬ ((n2 s.data.toList (10 + 2 * k) : Nat) : Int) ≤ ((n2 s.data.toList (8 + 2 * k) : Nat) : Int) := by omega
        have K3 : Hid (∀ i, i + 1 < k + 1 → n2 s.data.toList (10 + 2 * i) < n2 s.data.toList (12 + 2 * i)) := hide fun i hi => by
          have hj := HJ.out
          by_cases e : i + 1 < k
          · exact K2.out i e
          · obtain rfl : i = j := by omega
            rw [show 10 + 2 * k = 12 + 2 * i by omega, show 8 + 2 * k = 10 + 2 * i by omega] at hle
            omega
        go_wp2_with fail
        refine (CU.out (10 + 2 * k) _ _ (by omega) (by omega)).mono ?_
        rintro e wy ⟨rfl, m1, hy⟩
        subst wy
        go_wp2_with fail
        refine (CU.out (8 + 2 * k) _ _ (by omega) (by omega)).mono ?_
        rintro e wy ⟨rfl, m2, hy⟩
        subst wy
        go_wp2_with fail
        go_roundw
        case rel => exact ⟨k + 1, m + m1 + m2, by go_num, rfl, hide ⟨by omega, by omega, K3.out⟩⟩
        case measure => simp [intOf]; omega
    · obtain rfl : k = c := by omega
      have hk' : ¬ (k : Int) < (k : Int) := by omega
      have HG := hide (sim_go (l := s.data.toList) (c := k) (by rw [← Lib.size_eq]; exact H12.out) ((rise_iff _ _).2 K2.out))
      rw [HR.out, ← Lib.size_eq] at HG
      have hp := n2_lt s.data.toList (8 + 2 * k)
      have hq := n2_lt s.data.toList (10 + 2 * k)
      have d1 : 8 + 2 * k + 2 ≤ s.size := by omega
      have d2 : 10 + 2 * k + 2 ≤ s.size := by omega
      have C1 := hide (fun z w (hz : z = ((8 + 2 * k : Nat) : Int)) => CU.out (8 + 2 * k) z w hz d1)
      have C2 := hide (fun z w (hz : z = ((10 + 2 * k : Nat) : Int)) => CU.out (10 + 2 * k) z w hz d2)
      generalize n2 s.data.toList (8 + 2 * k) = P0 at HG hp C1
      generalize n2 s.data.toList (10 + 2 * k) = Q0 at HG hq C2
      have p1 : (P0 : Int) ≤ 65535 := by omega
      have q1 : (Q0 : Int) ≤ 65535 := by omega
      clear hk K2
      go_wp2_with fail
      refine (C1.out _ _ (by omega)).mono ?_
      rintro e wy ⟨rfl, m1, hy⟩
      subst wy
      go_wp2_with fail
      refine (C2.out _ _ (by omega)).mono ?_
      rintro e wy ⟨rfl, m2, hy⟩
      subst wy
      go_wp2_with fail
      have HKd : Hid (Blk (V.drewN (m + m1 + m2)) w.heap.size zs3 40) := hide HK0.out
      have HBd : Hid (Below w.heap.size w (V.drewN (m + m1 + m2))) := hide (below_drewN HB0.out _)
      generalize V.drewN (m + m1 + m2) = V2 at HKd HBd ⊢
      clear HK0 HB0 C1 C2 CU r0 r1 r2 z0 z1 z2
      obtain ⟨⟨r0, r1, r2⟩, z0, z1, z2⟩ := HKd.out.three
      go_loop [6, 9, 10] (fun va vn vz => ∃ (a n z : Nat), va = .int .i64 (a : Int) ∧ vn = .int .i64 (n : Int) ∧ vz = .int .i64 (z : Int) ∧ Hid (a ≤ 200000 + 2 * n ∧ n ≤ P0 + 256 ∧ z ≤ 4 * n ∧ ((n ≤ P0 + 1 ∧ ∃ f, P0 + 1 - n ≤ f ∧ R = endV s.data.toList (P0 + 1) (flg s.data.toList s.size f (P0 + 1 - n) a z)) ∨ (P0 + 1 < n ∧ R = none)))) (fun _ vn _ => P0 + 1 - (intOf vn).toNat)
      case atStart => exact ⟨12 + 2 * k + Q0, 0, 0, congrArg (Value.int .i64) (by omega), rfl, rfl, hide ⟨by omega, by omega, by omega, Or.inl ⟨by omega, P0 + 1, by omega, HG.out⟩⟩⟩
      case round =>
        obtain ⟨a, n, z, rfl, rfl, rfl, HV⟩ := hrel
        obtain ⟨a1, n1, zz, hv⟩ := HV.out
        have HVV := hide hv
        have ha0 : (0 : Int) ≤ (a : Int) := by omega
        have hn0 : (0 : Int) ≤ (n : Int) := by omega
        have hz0 : (0 : Int) ≤ (z : Int) := by omega
        have ha2 : (a : Int) ≤ 400000 := by omega
        have hn2 : (n : Int) ≤ 65791 := by omega
        have hz2 : (z : Int) ≤ 263164 := by omega
        clear HV hv HG
        by_cases hlt : n < P0 + 1
        case neg =>
          have hlt' : ¬ (n : Int) < (P0 : Int) + 1 := by omega
          by_cases hn : n = P0 + 1
          · have hnq : ((n : Int) == (P0 : Int) + 1) = true := by rw [beq_iff_eq]; omega
            have E : Hid (R = if tailB s.data.toList (a + z) = true then some (P0 + 1) else none) := hide (by
              rcases HVV.out with ⟨_, f, hf, h⟩ | ⟨h, _⟩
              · rw [h, hn, Nat.sub_self, flg_zero]; rfl
              · omega)
            have CZ := hide (fun z' w (hz : z' = ((a + z : Nat) : Int)) => rzeros_any s (a + z) z' w hz (by omega) (by omega))
            generalize tailB s.data.toList (a + z) = t at CZ E
            clear hlt hn HVV
            go_wp2_with fail
            refine (CZ.out _ _ (by omega)).mono ?_
            rintro e wy ⟨rfl, hy⟩
            subst wy
            go_wp2_with fail
            refine rs_fin (t := t) (st3 HKd.out (.int .i64 ((P0 : Int) + 1)) (.slice none 0 0) (.slice none 0 0)) rfl (by rfl) rfl ?_
            rw [E.out]
            cases t
            · exact ⟨P0 + 1, by omega, by push_cast; rfl, st3_below HBd.out (Nat.le_refl _) _ _ _⟩
            · exact ⟨by push_cast; rfl, st3_below HBd.out (Nat.le_refl _) _ _ _⟩
          · have hnq : ((n : Int) == (P0 : Int) + 1) = false := by rw [beq_eq_false_iff_ne]; omega
            have E : Hid (R = none) := hide (by
              rcases HVV.out with ⟨h, _⟩ | ⟨_, h⟩
              · omega
              · exact h)
            clear hlt hn HVV
            go_wp2_with fail
            refine rs_fin (t := false) (st3 HKd.out (.int .i64 ((P0 : Int) + 1)) (.slice none 0 0) (.slice none 0 0)) rfl rfl rfl ?_
            rw [E.out]
            exact ⟨P0 + 1, by omega, by push_cast; rfl, st3_below HBd.out (Nat.le_refl _) _ _ _⟩
        have hlt' : (n : Int) < (P0 : Int) + 1 := by omega
        obtain ⟨f, hf, hRf⟩ : ∃ f, P0 + 1 - n ≤ f + 1 ∧ R = endV s.data.toList (P0 + 1) (flg s.data.toList s.size (f + 1) (P0 + 1 - n) a z) := by
          rcases HVV.out with ⟨_, f, hf, h⟩ | ⟨h, _⟩
          · exact ⟨f - 1, by omega, by rw [show f - 1 + 1 = f by omega]; exact h⟩
          · omega
        have HRF := hide hRf
        clear HVV hRf
        by_cases has : a < s.size
        case neg =>
          have has' : (s.size : Int) ≤ (a : Int) := by omega
          have E := hide (show R = none by rw [HRF.out, flg_end _ _ _ _ _ _ (by omega) has]; rfl)
          go_wp2_with fail
          refine rs_fin (t := false) (st3 HKd.out (.int .i64 0) (.slice none 0 0) (.slice none 0 0)) rfl rfl rfl ?_
          rw [E.out]
          exact ⟨0, by omega, rfl, st3_below HBd.out (Nat.le_refl _) _ _ _⟩
        have has' : ¬ (s.size : Int) ≤ (a : Int) := by omega
        have has2 : (a : Int) < (s.size : Int) := by omega
        have hbt := bt_at s a has
        have hF := s[a].toNat_lt
        have CA := hide (fun w => CO.out s[a].toNat 2 16 w (by omega) (by omega) (by omega))
        have CB := hide (fun w => CO.out s[a].toNat 4 32 w (by omega) (by omega) (by omega))
        have ba := wid_le s[a].toNat 2 16
        have bb := wid_le s[a].toNat 4 32
        have HW : Hid (wxy (bt s.data.toList a) = wid s[a].toNat 2 16 + wid s[a].toNat 4 32) := hide (by rw [hbt]; rfl)
        generalize wid s[a].toNat 2 16 = A at CA ba HW
        generalize wid s[a].toNat 4 32 = B at CB bb HW
        have ba' : (A : Int) ≤ 2 := by omega
        have bb' : (B : Int) ≤ 2 := by omega
        have hFi : (s[a].toNat : Int) ≤ 255 := by omega
        cases h8 : hb (bt s.data.toList a) 8
        case false =>
          have E := hide (show R = endV s.data.toList (P0 + 1) (flg s.data.toList s.size f (P0 + 1 - n - 1) (a + 1) (z + wxy (bt s.data.toList a))) by rw [HRF.out, flg_one _ _ _ _ _ _ (by omega) has h8])
          have e1 : bits .and .i64 (s[a].toNat : Int) 8 = 0 := bit_f (m := 8) (by omega) (by omega) (by rw [← hbt]; exact h8)
          clear h8 hbt hF
          go_wp2_with fail
          refine (CA.out _).mono ?_
          rintro e wy ⟨rfl, hy⟩
          subst wy
          go_wp2_with fail
          refine (CB.out _).mono ?_
          rintro e wy ⟨rfl, hy⟩
          subst wy
          go_wp2_with fail
          go_round
          case rel => exact ⟨a + 1, n + 1, z + (A + B), by go_num, by go_num, congrArg (Value.int .i64) (by omega), hide ⟨by omega, by omega, by omega, Or.inl ⟨by omega, f, by omega, by rw [← HW.out, show P0 + 1 - (n + 1) = P0 + 1 - n - 1 by omega]; exact E.out⟩⟩⟩
          case measure => simp [intOf]; omega
        case true =>
          obtain ⟨x, e1, e2, e3⟩ := bit_t (f := s[a].toNat) (m := 8) (by omega) (by omega) (by rw [← hbt]; exact h8)
          have e1 : bits .and .i64 (s[a].toNat : Int) 8 = x := e1
          by_cases ha1 : a + 1 < s.size
          case neg =>
            have ha1' : (s.size : Int) ≤ (a : Int) + 1 := by omega
            have E := hide (show R = none by rw [HRF.out, flg_short _ _ _ _ _ _ (by omega) h8 ha1]; rfl)
            clear h8 hbt hF
            go_wp2_with fail
            refine rs_fin (t := false) (st3 HKd.out (.int .i64 0) (.slice none 0 0) (.slice none 0 0)) rfl rfl rfl ?_
            rw [E.out]
            exact ⟨0, by omega, rfl, st3_below HBd.out (Nat.le_refl _) _ _ _⟩
          have ha1' : ¬ (s.size : Int) ≤ (a : Int) + 1 := by omega
          have ha12 : (a : Int) + 1 < (s.size : Int) := by omega
          have ha13 : ((a : Int) + 1).toNat = a + 1 := by omega
          have hbt1 := bt_at s (a + 1) ha1
          have hG := s[a + 1].toNat_lt
          obtain ⟨PP, hPP⟩ : ∃ PP, PP = (s[a + 1].toNat + 1) * (A + B) := ⟨_, rfl⟩
          obtain ⟨wm, wl, wp⟩ := wrap_mul s[a + 1].toNat A B PP (by omega) ba bb hPP
          have WM := hide wm
          have WP := hide wp
          clear wm wp
          have wl' : (PP : Int) ≤ 1024 := by omega
          have HPP := hide hPP
          have wl2 : PP ≤ 4 * (s[a + 1].toNat + 1) := by rw [hPP, Nat.mul_comm]; exact Nat.mul_le_mul_right _ (by omega)
          have E : Hid ((s[a + 1].toNat + 1 ≤ P0 + 1 - n → R = endV s.data.toList (P0 + 1) (flg s.data.toList s.size f (P0 + 1 - n - (s[a + 1].toNat + 1)) (a + 2) (z + PP))) ∧ (¬ s[a + 1].toNat + 1 ≤ P0 + 1 - n → R = none)) := hide (by
            constructor
            · intro hk
              rw [HRF.out, flg_many _ _ _ _ _ _ (by omega) h8 ha1 (by rw [hbt1]; exact hk), hbt1, HW.out, ← hPP]
            · intro hk
              rw [HRF.out, flg_over _ _ _ _ _ _ (by omega) h8 (by rw [hbt1]; exact hk)]; rfl)
          have hGi : (s[a + 1].toNat : Int) ≤ 255 := by omega
          have hGn : s[a + 1].toNat ≤ 255 := by omega
          clear h8 hbt hF hbt1 hG hPP
          go_wp2_with fail
          refine (CA.out _).mono ?_
          rintro e wy ⟨rfl, hy⟩
          subst wy
          go_wp2_with fail
          refine (CB.out _).mono ?_
          rintro e wy ⟨rfl, hy⟩
          subst wy
          have wm := WM.out
          go_wp2_with fail
          clear wm
          go_round
          case rel =>
            refine ⟨a + 2, n + (s[a + 1].toNat + 1), z + PP, congrArg (Value.int .i64) (by omega), congrArg (Value.int .i64) (by omega), by first | (rw [show wrap64 ((z : Int) + (PP : Int)) = ((z + PP : Nat) : Int) by unfold wrap64; omega]) | (rw [WP.out]; exact congrArg (Value.int .i64) (by omega)) | (rw [WM.out]; exact congrArg (Value.int .i64) (by omega)) | exact congrArg (Value.int .i64) (by omega), hide ⟨by omega, by omega, by omega, ?_⟩⟩
            by_cases hk : s[a + 1].toNat + 1 ≤ P0 + 1 - n
            · exact Or.inl ⟨by omega, f, by omega, by rw [show P0 + 1 - (n + (s[a + 1].toNat + 1)) = P0 + 1 - n - (s[a + 1].toNat + 1) by omega]; exact E.out.1 hk⟩
            · exact Or.inr ⟨by omega, E.out.2 hk⟩
          case measure => simp [intOf]; omega
end Go.Proofs.YtcbmjoocehhhnaaDoor
