/-
  What the reference's small functions answer: U2, U4, Two, power, Search, Tag, owned.
-/
import Derived.Test.YtgmmhlpdkoiheaaDoorS8Gf
import Derived.Test.YtgmmhlpdkoiheaaDoorM9P
namespace Go.Proofs.YtgmmhlpdkoiheaaDoor
open Go.RowKit Go.Deep
set_option linter.unusedVariables false

theorem or_bytes (x y : Int) (hx0 : 0 ≤ x) (hx : x < 256) (hy0 : 0 ≤ y) (hy : y < 256) : bits .or .i64 (x * 256) y = x * 256 + y :=
  bits_join .i64 62 (by decide) (fun n h0 h1 => by rw [IntKind.wrap_i64]; omega) 8 (x * 256) y (by omega) (by omega) (by omega) hy0 (by omega) (by omega)
theorem or_two (x y : Int) (hx0 : 0 ≤ x) (hx : x < 65536) (hy0 : 0 ≤ y) (hy : y < 65536) : bits .or .i64 (x * 65536) y = x * 65536 + y :=
  bits_join .i64 62 (by decide) (fun n h0 h1 => by rw [IntKind.wrap_i64]; omega) 16 (x * 65536) y (by omega) (by omega) (by omega) hy0 (by omega) (by omega)
theorem getD_at (s : ByteArray) (j : Nat) (h : j < s.size) : s.data.toList.getD j 0 = s[j] := by
  rw [List.getD_eq_getElem?_getD, List.getElem?_eq_getElem (by rw [← Lib.size_eq]; exact h)]
  rfl
theorem bt_at (s : ByteArray) (j : Nat) (h : j < s.size) : bt s.data.toList j = s[j].toNat := by unfold bt; rw [getD_at s j h]
def n4 (l : List UInt8) (k : Nat) : Nat := n2 l k * 65536 + n2 l (k + 2)
theorem n4_lt (l : List UInt8) (k : Nat) : n4 l k < 4294967296 := by
  have h1 := n2_lt l k; have h2 := n2_lt l (k + 2); unfold n4; omega
theorem num2 (l : List UInt8) (k : Nat) (h : k + 2 ≤ l.length) : numV ((l.drop k).take 2) = n2 l k := by
  have e : (l.drop k).take 2 = [l[k], l[k + 1]] := by
    rw [List.drop_eq_getElem_cons (by omega), List.take_succ_cons, List.drop_eq_getElem_cons (by omega), List.take_succ_cons, List.take_zero]
  rw [e]
  unfold n2 bt numV
  rw [List.getD_eq_getElem?_getD, List.getD_eq_getElem?_getD, List.getElem?_eq_getElem (by omega), List.getElem?_eq_getElem (by omega), List.foldl_cons, List.foldl_cons, List.foldl_nil]
  simp only [Option.getD_some]
  omega
theorem num4 (l : List UInt8) (k : Nat) (h : k + 4 ≤ l.length) : numV ((l.drop k).take 4) = n4 l k := by
  have e : (l.drop k).take 4 = [l[k], l[k + 1], l[k + 2], l[k + 3]] := by
    rw [List.drop_eq_getElem_cons (by omega), List.take_succ_cons, List.drop_eq_getElem_cons (by omega), List.take_succ_cons, List.drop_eq_getElem_cons (by omega), List.take_succ_cons, List.drop_eq_getElem_cons (by omega), List.take_succ_cons, List.take_zero]
  rw [e]
  unfold n4 n2 bt numV
  rw [List.getD_eq_getElem?_getD, List.getD_eq_getElem?_getD, List.getD_eq_getElem?_getD, List.getD_eq_getElem?_getD, List.getElem?_eq_getElem (by omega), List.getElem?_eq_getElem (by omega), List.getElem?_eq_getElem (by omega), List.getElem?_eq_getElem (by omega), List.foldl_cons, List.foldl_cons, List.foldl_cons, List.foldl_cons, List.foldl_nil]
  simp only [Option.getD_some, show k + 2 + 1 = k + 3 from rfl]
  omega
theorem ru2_any (s : ByteArray) (k : Nat) (z : Int) (w : World) (hz : z = (k : Int)) (h : k + 2 ≤ s.size) (hm : s.size ≤ 1073741824) :
    Calls Tryd.prog 28 #[.string s, .int .i64 z] w fun e w' => e = .returned (.int .i64 ((n2 s.data.toList k : Nat) : Int)) ∧ ∃ n, w' = w.drewN n := by
  subst hz
  have h0 : (k : Int) < (s.size : Int) := by omega
  have h1 : (k : Int) + 1 < (s.size : Int) := by omega
  have h3 : (s.size : Int) ≤ 1073741824 := by omega
  have h00 : (0 : Int) ≤ (k : Int) := by omega
  have c1 : ¬ (k : Int) < 0 := by omega
  have c2 : ¬ (s.size : Int) - 2 < (k : Int) := by omega
  have a0 := s[k].toNat_lt
  have a1 := s[k + 1].toNat_lt
  have b0 : (s[k].toNat : Int) ≤ 255 := by omega
  have b1 : (s[k + 1].toNat : Int) ≤ 255 := by omega
  have ho := or_bytes (s[k].toNat : Int) (s[k + 1].toNat : Int) (by omega) (by omega) (by omega) (by omega)
  have HU := hide (show (s[k].toNat : Int) * 256 + (s[k + 1].toNat : Int) = ((n2 s.data.toList k : Nat) : Int) by
    unfold n2
    rw [bt_at s k (by omega), bt_at s (k + 1) (by omega)]
    omega)
  have k0 : IntKind.i64.wrap (s[k].toNat : Int) = (s[k].toNat : Int) := by rw [IntKind.wrap_i64]; omega
  have k1 : IntKind.i64.wrap (s[k + 1].toNat : Int) = (s[k + 1].toNat : Int) := by rw [IntKind.wrap_i64]; omega
  have k2 : IntKind.i64.wrap ((s[k].toNat : Int) * 256) = (s[k].toNat : Int) * 256 := by rw [IntKind.wrap_i64]; omega
  have k3 : ((k : Int) + 1).toNat = k + 1 := by omega
  have k4 : IntKind.i64.wrap ((k : Int) + 1) = (k : Int) + 1 := by rw [IntKind.wrap_i64]; omega
  have h10 : (0 : Int) ≤ (k : Int) + 1 := by omega
  have hu := HU.out
  rw [hu] at ho
  clear a0 a1 hu
  go_enter Tryd.func28, Tryd.ntmps28
  go_wp2_with fail
  rename_i q0
  have HA := hide q0
  clear q0
  go_region_held3 (fun _ => True) (first | trivial | go_keep) ((fail))
  all_goals
    refine HA.out _ _ ?_
    go_wp2
    go_ret
    exact ⟨rfl, 1, rfl⟩
theorem ru2_z (s : ByteArray) (k : Nat) (z : Int) (w : World) (hz : z = (k : Int)) (hm : s.size ≤ 1073741824) (hk : k ≤ 1073741824) :
    Calls Tryd.prog 28 #[.string s, .int .i64 z] w fun e w' => ∃ y : Nat, e = .returned (.int .i64 (y : Int)) ∧ y ≤ 65535 ∧ (k + 2 ≤ s.size → y = n2 s.data.toList k) ∧ ∃ n, w' = w.drewN n := by
  by_cases h : k + 2 ≤ s.size
  · refine (ru2_any s k z w hz h hm).mono ?_
    rintro e w' ⟨h1, h2⟩
    exact ⟨_, h1, by have := n2_lt s.data.toList k; omega, fun _ => rfl, h2⟩
  · subst hz
    have h0 : ¬ (k : Int) < 0 := by omega
    have h1 : (s.size : Int) - 2 < (k : Int) := by omega
    have h2 : (s.size : Int) ≤ 1073741824 := by omega
    have h3 : (0 : Int) ≤ (s.size : Int) := by omega
    have HH := hide h
    clear h
    go_enter Tryd.func28, Tryd.ntmps28
    go_wp2_with fail
    go_ret
    exact ⟨0, rfl, by omega, fun h => absurd h HH.out, 0, rfl⟩
theorem ru4_any (s : ByteArray) (k : Nat) (z : Int) (w : World) (hz : z = (k : Int)) (h : k + 4 ≤ s.size) (hm : s.size ≤ 1073741824) :
    Calls Tryd.prog 30 #[.string s, .int .i64 z] w fun e w' => e = .returned (.int .i64 ((n4 s.data.toList k : Nat) : Int)) ∧ ∃ n, w' = w.drewN n := by
  subst hz
  have C1 := hide (fun z w (hz : z = (k : Int)) => ru2_any s k z w hz (by omega) hm)
  have C2 := hide (fun z w (hz : z = ((k + 2 : Nat) : Int)) => ru2_any s (k + 2) z w hz (by omega) hm)
  have h1 := n2_lt s.data.toList k
  have h2 := n2_lt s.data.toList (k + 2)
  have HV : Hid (((n4 s.data.toList k : Nat) : Int) = ((n2 s.data.toList k : Nat) : Int) * 65536 + ((n2 s.data.toList (k + 2) : Nat) : Int)) := hide (by unfold n4; omega)
  generalize n4 s.data.toList k = R at HV ⊢
  generalize n2 s.data.toList k = A at C1 h1 HV
  generalize n2 s.data.toList (k + 2) = B at C2 h2 HV
  have ho := or_two (A : Int) (B : Int) (by omega) (by omega) (by omega) (by omega)
  have hv := HV.out
  rw [← hv] at ho
  have k0 : (0 : Int) ≤ (k : Int) := by omega
  have k1 : (k : Int) ≤ 1073741824 := by omega
  have a1 : (A : Int) ≤ 65535 := by omega
  have a0 : (0 : Int) ≤ (A : Int) := by omega
  clear h1 h2 hv h hm
  go_enter Tryd.func30, Tryd.ntmps30
  go_wp2_with fail
  refine (C1.out _ _ rfl).mono ?_
  rintro e wy ⟨rfl, m1, hy⟩
  subst wy
  go_wp2_with fail
  refine (C2.out _ _ (by omega)).mono ?_
  rintro e wy ⟨rfl, m2, hy⟩
  subst wy
  go_wp2_with fail
  go_ret
  exact ⟨rfl, _, rfl⟩
theorem rtwo_any (x : Int) (w : World) (h0 : -4611686018427387904 ≤ x) (h1 : x ≤ 4611686018427387904) : Calls Tryd.prog 41 #[.int .i64 x] w fun e w' => e = .returned (.string ⟨(nbT x 2).toArray⟩) ∧ Below w.heap.size w w' := by
  have CV : (convert 45 9 (.slice (some ⟨w.heap.size, 0, none⟩) 2 2)).run Tryd.prog (w.alloc (.cells #[.int .u8 (x / 256 % 256), .int .u8 (x % 256)] 5)) = .ok (.string ⟨(nbT x 2).toArray⟩) (w.alloc (.cells #[.int .u8 (x / 256 % 256), .int .u8 (x % 256)] 5)) := by
    refine run_convert_bytes_back (P := Tryd.prog) _ 45 9 5 ⟨w.heap.size, 0, none⟩ 2 (nbT x 2) Tryd.underlying45 Tryd.underlying5 Tryd.underlying9 ?_
    intro j hj
    rw [Go.WideShapes.add_plain, Nat.zero_add, World.cell?_alloc_at _ _ _ _ rfl]
    have e1 := nbB_cell x 1
    have e2 := nbB_cell x 0
    rw [show (256 : Int) ^ 1 = 256 from rfl] at e1
    rw [show (256 : Int) ^ 0 = 1 from rfl, Int.ediv_one] at e2
    unfold bcell at e1 e2
    match j, hj with
    | 0, _ => exact congrArg some e1.symm
    | 1, _ => exact congrArg some e2.symm
  have HB := hide ((Below.refl w.heap.size w).alloc (Nat.le_refl _) (.cells #[.int .u8 (x / 256 % 256), .int .u8 (x % 256)] 5))
  generalize (⟨(nbT x 2).toArray⟩ : ByteArray) = T at CV ⊢
  go_enter Tryd.func41, Tryd.ntmps41
  go_wp2_with fail
  go_ret
  exact ⟨rfl, HB.out⟩
theorem exp_one : ∀ (n : Fin 33) (q : Fin 6), 2 ^ q.val ≤ n.val → n.val < 2 * 2 ^ q.val → expV n.val = q.val := by decide +kernel
set_option maxHeartbeats 1000000 in
theorem rpower_any (n : Nat) (w : World) (h1 : 1 ≤ n) (h2 : n ≤ 32) :
    Calls Tryd.prog 50 #[.int .i64 (n : Int)] w fun e w' => e = .returned (.tuple #[.int .i64 (powV n : Int), .int .i64 (expV n : Int)]) ∧ w' = w := by
  have hn1 : (1 : Int) ≤ (n : Int) := by omega
  have hn2 : (n : Int) ≤ 32 := by omega
  go_enter Tryd.func50, Tryd.ntmps50
  go_wp2_with fail
  go_loop [4, 5] (fun vp vq => ∃ (p q : Nat), vp = .int .i64 (p : Int) ∧ vq = .int .i64 (q : Int) ∧ Hid (p = 2 ^ q ∧ p ≤ n ∧ q ≤ 5 ∧ 1 ≤ p)) (fun vp _ => n - (intOf vp).toNat)
  case atStart => exact ⟨1, 0, rfl, rfl, hide ⟨rfl, h1, by omega, by omega⟩⟩
  case round =>
    obtain ⟨p, q, rfl, rfl, HV⟩ := hrel
    obtain ⟨hp, hpn, hq, hp1⟩ := HV.out
    have HP := hide hp
    clear HV hp
    have p0 : (0 : Int) ≤ (p : Int) := by omega
    have p1 : (p : Int) ≤ 32 := by omega
    have q0 : (0 : Int) ≤ (q : Int) := by omega
    have q1 : (q : Int) ≤ 5 := by omega
    by_cases hlt : 2 * p ≤ n
    · have hlt' : 2 * (p : Int) ≤ (n : Int) := by omega
      have hq4 : q + 1 ≤ 5 := by
        rcases Nat.lt_or_ge q 5 with h | h
        · omega
        · exfalso
          have e : q = 5 := by omega
          have := HP.out
          rw [e] at this
          have h32 : (2 : Nat) ^ 5 = 32 := by decide
          omega
      have HP2 := hide (show 2 * p = 2 ^ (q + 1) by rw [Nat.pow_succ, ← HP.out]; omega)
      go_wp2_with fail
      go_round
      case rel => exact ⟨2 * p, q + 1, by go_num, by go_num, hide ⟨HP2.out, hlt, hq4, by omega⟩⟩
      case measure => simp [intOf]; omega
    · have hlt' : ¬ 2 * (p : Int) ≤ (n : Int) := by omega
      have e1 : expV n = q := exp_one ⟨n, by omega⟩ ⟨q, by omega⟩ (by simp only; rw [← HP.out]; exact hpn) (by simp only; rw [← HP.out]; omega)
      have e2 : powV n = p := by unfold powV; rw [e1, ← HP.out]
      have E := hide (And.intro e1 e2)
      clear e1 e2 hlt
      go_wp2_with fail
      go_ret2
      exact ⟨by rw [E.out.1, E.out.2]; rfl, rfl⟩
def srT (n : Nat) : List UInt8 := nbT (16 * (powV n : Int)) 2 ++ (nbT (expV n : Int) 2 ++ nbT (16 * ((n : Int) - (powV n : Int))) 2)
theorem openT_eq (n : Nat) : openT n = [0, 1, 0, 0] ++ (nbT (n : Int) 2 ++ srT n) := by
  unfold openT opNums srT
  simp [List.flatMap_cons]
set_option maxHeartbeats 1000000 in
theorem rsearch_any (n : Nat) (w : World) (h1 : 1 ≤ n) (h2 : n ≤ 32) :
    Calls Tryd.prog 29 #[.int .i64 (n : Int), .int .i64 16] w fun e w' => e = .returned (.string ⟨(srT n).toArray⟩) ∧ Below w.heap.size w w' := by
  obtain ⟨hb, he5, hp1, hp2, hp3⟩ := exp_bd ⟨n, by omega⟩ h1
  simp only at hb he5 hp1 hp2 hp3
  have CP := hide (rpower_any n w h1 h2)
  have hs : srT n = nbT (16 * (powV n : Int)) 2 ++ (nbT (expV n : Int) 2 ++ nbT (16 * ((n : Int) - (powV n : Int))) 2) := rfl
  generalize powV n = p at CP hp1 hp2 hp3 hs
  generalize expV n = q at CP he5 hs
  have C1 := hide (fun w => rtwo_any (16 * (p : Int)) w (by omega) (by omega))
  have C2 := hide (fun w => rtwo_any (q : Int) w (by omega) (by omega))
  have C3 := hide (fun w => rtwo_any (16 * ((n : Int) - (p : Int))) w (by omega) (by omega))
  have a1 : ∀ w, (Op.stringOp .add (⟨(nbT (16 * (p : Int)) 2).toArray⟩ : ByteArray) (⟨(nbT (q : Int) 2).toArray⟩ : ByteArray)).run Tryd.prog w = .ok (.string ⟨(nbT (16 * (p : Int)) 2 ++ nbT (q : Int) 2).toArray⟩) w := fun w => by
    have := run_string_add_sum (P := Tryd.prog) w (⟨(nbT (16 * (p : Int)) 2).toArray⟩ : ByteArray) (⟨(nbT (q : Int) 2).toArray⟩ : ByteArray) (by show 2 + 2 ≤ _; omega)
    rw [this]; rfl
  have a2 : ∀ w, (Op.stringOp .add (⟨(nbT (16 * (p : Int)) 2 ++ nbT (q : Int) 2).toArray⟩ : ByteArray) (⟨(nbT (16 * ((n : Int) - (p : Int))) 2).toArray⟩ : ByteArray)).run Tryd.prog w = .ok (.string ⟨(srT n).toArray⟩) w := fun w => by
    have := run_string_add_sum (P := Tryd.prog) w (⟨(nbT (16 * (p : Int)) 2 ++ nbT (q : Int) 2).toArray⟩ : ByteArray) (⟨(nbT (16 * ((n : Int) - (p : Int))) 2).toArray⟩ : ByteArray) (by show 4 + 2 ≤ _; omega)
    rw [this, hs]; rfl
  generalize (⟨(nbT (16 * (p : Int)) 2).toArray⟩ : ByteArray) = T1 at C1 a1
  generalize (⟨(nbT (q : Int) 2).toArray⟩ : ByteArray) = T2 at C2 a1
  generalize (⟨(nbT (16 * (p : Int)) 2 ++ nbT (q : Int) 2).toArray⟩ : ByteArray) = T12 at a1 a2
  generalize (⟨(nbT (16 * ((n : Int) - (p : Int))) 2).toArray⟩ : ByteArray) = T3 at C3 a2
  generalize (⟨(srT n).toArray⟩ : ByteArray) = TT at a2 ⊢
  have hn1 : (1 : Int) ≤ (n : Int) := by omega
  have hn2 : (n : Int) ≤ 32 := by omega
  have p1' : (1 : Int) ≤ (p : Int) := by omega
  have p2' : (p : Int) ≤ (n : Int) := by omega
  clear hs hb he5 hp1 hp2 hp3 h1 h2
  go_enter Tryd.func29, Tryd.ntmps29
  go_wp2_with fail
  refine CP.out.mono ?_
  rintro e wy ⟨rfl, hy⟩
  subst wy
  go_wp2_with fail
  refine (C1.out _).mono ?_
  rintro e w1 ⟨rfl, hb1⟩
  have B1 := hide hb1
  clear hb1
  go_wp2_with fail
  refine (C2.out _).mono ?_
  rintro e w2 ⟨rfl, hb2⟩
  have B2 := hide (below_t5 B1.out hb2)
  clear hb2
  go_wp2_with fail
  refine (C3.out _).mono ?_
  rintro e w3 ⟨rfl, hb3⟩
  have B3 := hide (below_t5 B2.out hb3)
  clear hb3
  go_wp2_with fail
  go_ret
  exact ⟨rfl, B3.out⟩
/- a tag, of four bytes -/
abbrev tgS (b0 b1 b2 b3 : UInt8) : ByteArray := ⟨#[b0, b1, b2, b3]⟩
set_option maxHeartbeats 2000000 in
theorem rtag_any (b0 b1 b2 b3 : UInt8) (w : World) :
    Calls Tryd.prog 31 #[.string (tgS b0 b1 b2 b3)] w fun e w' => e = .returned (.bool (gdB b0 && (gdB b1 && (gdB b2 && gdB b3)))) ∧ w' = w := by
  obtain ⟨T, hT⟩ : ∃ T, T = tgS b0 b1 b2 b3 := ⟨_, rfl⟩
  have hz : T.size = 4 := by rw [hT]; rfl
  have g : ∀ j (h : j < 4), T[j]'(by omega) = [b0, b1, b2, b3][j] := by
    subst hT
    intro j h
    match j, h with
    | 0, _ => rfl
    | 1, _ => rfl
    | 2, _ => rfl
    | 3, _ => rfl
  rw [← hT]
  have hz' : (T.size : Int) = 4 := by omega
  obtain ⟨R, hR⟩ : ∃ R, (gdB b0 && (gdB b1 && (gdB b2 && gdB b3))) = R := ⟨_, rfl⟩
  have hR' : (([b0, b1, b2, b3].drop 0).all gdB) = R := by rw [← hR]; simp [List.all_cons]
  rw [hR]
  have HR := hide hR'
  have HG := hide g
  clear g hR hR' hT
  go_enter Tryd.func31, Tryd.ntmps31
  go_wp2_with fail
  go_loop [3] (fun vi => ∃ (k : Nat), vi = .int .i64 (k : Int) ∧ Hid (k ≤ 4 ∧ ([b0, b1, b2, b3].drop k).all gdB = R)) (fun vi => 4 - (intOf vi).toNat)
  case atStart => exact ⟨0, rfl, hide ⟨by omega, HR.out⟩⟩
  case round =>
    obtain ⟨k, rfl, HV⟩ := hrel
    obtain ⟨hk, hr⟩ := HV.out
    have hk0 : (0 : Int) ≤ (k : Int) := by omega
    clear HV
    by_cases hlt : k < 4
    case neg =>
      have hlt' : ¬ (k : Int) < 4 := by omega
      have e : R = true := by rw [← hr, show k = 4 by omega]; rfl
      subst e
      clear hr hlt
      go_wp2_with fail
      go_ret
      exact ⟨rfl, rfl⟩
    have hlt' : (k : Int) < 4 := by omega
    have hkz : k < T.size := by omega
    have hkz' : (k : Int) < (T.size : Int) := by omega
    have hgk := HG.out k hlt
    have hd : [b0, b1, b2, b3].drop k = [b0, b1, b2, b3][k] :: [b0, b1, b2, b3].drop (k + 1) := List.drop_eq_getElem_cons (by simpa using hlt)
    rw [hd, List.all_cons, ← hgk] at hr
    have hc := T[k].toNat_lt
    have hc' : (T[k].toNat : Int) ≤ 255 := by omega
    have HRR := hide hr
    clear hr hgk hd hc
    by_cases q1 : (T[k].toNat : Int) < 32
    · have e : R = false := by rw [← HRR.out, gd_no (Or.inl q1)]; rfl
      subst e
      clear HRR
      go_wp2_with fail
      go_ret
      exact ⟨rfl, rfl⟩
    by_cases q2 : (126 : Int) < (T[k].toNat : Int)
    · have e : R = false := by rw [← HRR.out, gd_no (Or.inr q2)]; rfl
      subst e
      clear HRR
      go_wp2_with fail
      go_ret
      exact ⟨rfl, rfl⟩
    have hr2 := HRR.out
    rw [gd_yes q1 q2, Bool.true_and] at hr2
    have HR2 := hide hr2
    clear HRR hr2
    go_wp2_with fail
    go_round
    case rel => exact ⟨k + 1, by go_num, hide ⟨by omega, HR2.out⟩⟩
    case measure => simp [intOf]; omega
theorem hd_eq (b0 b1 b2 b3 : UInt8) : ((tgS b0 b1 b2 b3).toList == [104, 101, 97, 100]) = isHd b0 b1 b2 b3 := by
  rw [Lib.toList_data]
  show ([b0, b1, b2, b3] == [104, 101, 97, 100]) = _
  unfold isHd
  simp [List.cons_beq_cons, Bool.and_assoc]
set_option maxRecDepth 8000 in
set_option maxHeartbeats 1000000 in
theorem rowned_any (b0 b1 b2 b3 : UInt8) (s : ByteArray) (w : World) (hs : s.size ≤ 1000000000) :
    Calls Tryd.prog 32 #[.string (tgS b0 b1 b2 b3), .string s] w fun e w' => e = .returned (.string (smS b0 b1 b2 b3 s)) ∧ ∃ n, w' = w.drewN n := by
  have hq := hd_eq b0 b1 b2 b3
  have hs' : (s.size : Int) ≤ 1000000000 := by omega
  obtain ⟨T, hT⟩ : ∃ T, T = tgS b0 b1 b2 b3 := ⟨_, rfl⟩
  rw [← hT] at hq ⊢
  clear hT
  cases hi : isHd b0 b1 b2 b3 with
  | false =>
    rw [hi] at hq
    have e : smS b0 b1 b2 b3 s = s := by unfold smS; rw [hi]; rfl
    rw [e]
    clear hi e hs
    go_enter Tryd.func32, Tryd.ntmps32
    go_wp2_with fail
    go_ret
    exact ⟨rfl, 0, rfl⟩
  | true =>
    rw [hi] at hq
    by_cases h12 : 12 ≤ s.size
    case neg =>
      have h12' : ¬ (12 : Int) ≤ (s.size : Int) := by omega
      have e : smS b0 b1 b2 b3 s = s := by unfold smS; rw [hi, show decide (12 ≤ s.size) = false by simpa using h12]; rfl
      rw [e]
      clear hi e hs h12
      go_enter Tryd.func32, Tryd.ntmps32
      go_wp2_with fail
      go_ret
      exact ⟨rfl, 0, rfl⟩
    have h12' : (12 : Int) ≤ (s.size : Int) := by omega
    have e : smS b0 b1 b2 b3 s = s.extract 0 8 ++ ⟨#[0, 0, 0, 0]⟩ ++ s.extract 12 s.size := by unfold smS; rw [hi, show decide (12 ≤ s.size) = true by simpa using h12]; rfl
    rw [e]
    have hA : (s.extract 0 8).size = 8 := by rw [ByteArray.size_extract]; omega
    have hC : (s.extract 12 s.size).size ≤ s.size := by rw [ByteArray.size_extract]; omega
    have a1 : ∀ w, (Op.stringOp .add (s.extract 0 8) (⟨#[0, 0, 0, 0]⟩ : ByteArray)).run Tryd.prog w = .ok (.string (s.extract 0 8 ++ ⟨#[0, 0, 0, 0]⟩)) w := fun w => run_string_add_sum (P := Tryd.prog) w _ _ (by rw [hA]; show 8 + 4 ≤ _; omega)
    have a2 : ∀ w, (Op.stringOp .add (s.extract 0 8 ++ ⟨#[0, 0, 0, 0]⟩) (s.extract 12 s.size)).run Tryd.prog w = .ok (.string (s.extract 0 8 ++ ⟨#[0, 0, 0, 0]⟩ ++ s.extract 12 s.size)) w := fun w => run_string_add_sum (P := Tryd.prog) w _ _ (by rw [ByteArray.size_append, hA]; show 8 + 4 + _ ≤ _; omega)
    have z1 : (8 : Int) ≤ (s.size : Int) := by omega
    have z3 : 8 ≤ s.size := by omega
    generalize s.extract 0 8 ++ ⟨#[0, 0, 0, 0]⟩ ++ s.extract 12 s.size = R2 at a2 ⊢
    generalize s.extract 0 8 ++ ⟨#[0, 0, 0, 0]⟩ = R1 at a1 a2
    clear hi e hs hA hC
    go_enter Tryd.func32, Tryd.ntmps32
    go_wp2_with fail
    rename_i kk0
    have HA := hide kk0
    clear kk0
    go_region_held3 (fun _ => True) (first | trivial | go_keep) ((fail))
    all_goals
      refine HA.out _ _ ?_
      go_wp2
      go_ret
      exact ⟨rfl, 1, rfl⟩
end Go.Proofs.YtgmmhlpdkoiheaaDoor
