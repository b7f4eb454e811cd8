/-
  What the landed Whole answers.
-/
import Derived.Test.YtgmmhlpdkoiheaaDoorS8Fi
namespace Go.Proofs.YtgmmhlpdkoiheaaDoor
open Go.RowKit Go.Deep
set_option linter.unusedVariables false
set_option linter.unusedSimpArgs false

abbrev hdS : ByteArray := ⟨#[104, 101, 97, 100]⟩
def whV (o : Option ByteArray) (Z : Nat) : Bool := match o with
  | none => false
  | some d => decide (12 ≤ d.size) && decide (Z = 2981146554)
def whoB (s : ByteArray) : Bool := whV (finV (tabV s) hdS) (sumV s.data.toList)
theorem tabV_bd (s : ByteArray) (x : Tab) (h : x ∈ tabV s) : x.2.size ≤ s.size := by
  unfold tabV at h
  split at h
  · obtain ⟨r, _, rfl⟩ := List.mem_map.1 h
    unfold tbOf
    simp only
    rw [ByteArray.size_extract]
    omega
  · simp at h
theorem tabV_len (s : ByteArray) : (tabV s).length ≤ 32 := by
  unfold tabV
  split
  · rename_i h
    rw [List.length_map, rowsV_len]
    unfold errV at h
    split at h
    · simp at h
    · cases e : hdB s.data.toList with
      | false => rw [e] at h; simp at h
      | true =>
        unfold hdB at e
        rw [Bool.and_eq_true, Bool.and_eq_true, Bool.and_eq_true, decide_eq_true_eq, decide_eq_true_eq, decide_eq_true_eq] at e
        exact e.2.2.1
  · simp
set_option maxRecDepth 8000 in
set_option maxHeartbeats 1000000 in
theorem whole_any (s : ByteArray) (w : World) (hg : Glo8 w) (hs : s.size ≤ 1000000000) : Calls Tryd.prog 16 #[.string s] w fun e w' => e = .returned (.bool (whoB s)) ∧ Below w.heap.size w w' := by
  have CR := hide (read_gen s w hg (by omega))
  have hE := tabV_no (s := s)
  obtain ⟨E, hEE⟩ : ∃ E, errV s.data.toList = E := ⟨_, rfl⟩
  have CS := hide (fun w => sum_any s w (by omega))
  have CF := hide (fun (a : Option Addr) (c : Nat) (w : World) (h : TLst w a (tabV s)) => find_any a (tabV s) (tabV s).length c hdS w rfl (by have := tabV_len s; omega) (fun x hx => by have := tabV_bd s x hx; omega) h)
  obtain ⟨WB, hWB⟩ : ∃ WB, whoB s = WB := ⟨_, rfl⟩
  rw [hWB]
  have HE := hide hEE
  by_cases h0 : E = 0
  case neg =>
    have h0' : (E != 0) = true := by simpa using h0
    have e : WB = false := by rw [← hWB]; unfold whoB; rw [hE (by rw [hEE]; exact h0)]; rfl
    subst e
    clear h0 hE hEE hWB hg hs
    go_enter Tryd.func16, Tryd.ntmps16
    go_wp2_with fail
    refine CR.out.mono ?_
    rintro e w1 ⟨v, rfl, hT, hb⟩
    rw [HE.out]
    have HB := hide hb
    clear hT hb
    go_wp2_with fail
    go_ret
    exact ⟨rfl, HB.out⟩
  subst h0
  obtain ⟨FV, hFV⟩ : ∃ FV, finV (tabV s) hdS = FV := ⟨_, rfl⟩
  have hdz : ∀ d, FV = some d → d.size ≤ 1000000000 := fun d hd => by
    rw [← hFV] at hd
    unfold finV at hd
    obtain ⟨x, hx, rfl⟩ := Option.map_eq_some_iff.1 hd
    have := tabV_bd s x (List.mem_of_find?_eq_some hx)
    omega
  rw [hFV] at CF
  have eW : WB = whV FV (sumV s.data.toList) := by rw [← hWB, ← hFV]; rfl
  have hZ := sumV_lt s.data.toList
  generalize sumV s.data.toList = Z at CS eW hZ
  clear hE hEE hWB hg hs hFV
  generalize hH : hdS = hd at CF
  have hH' : hd = hdS := hH.symm
  clear hH
  cases FV with
  | none =>
    have e : WB = false := eW
    subst e
    clear hdz eW
    subst hH'
    go_enter Tryd.func16, Tryd.ntmps16
    go_wp2_with fail
    refine CR.out.mono ?_
    rintro e w1 ⟨v, rfl, hT, hb⟩
    rw [HE.out]
    obtain ⟨a, cap, rfl, hL⟩ := hT.lst
    have HB := hide hb
    have CF1 := hide (CF.out a cap w1 hL)
    clear hT hb hL
    go_wp2_with fail
    refine CF1.out.mono ?_
    rintro e w2 ⟨rfl, hb2⟩
    have HB2 := hide (below_t5 HB.out hb2)
    clear hb2
    unfold fnR
    go_wp2_with fail
    go_ret
    exact ⟨rfl, HB2.out⟩
  | some d =>
    have hd1 : (d.size : Int) ≤ 1000000000 := by have := hdz d rfl; omega
    have eW2 : WB = (decide (12 ≤ d.size) && decide (Z = 2981146554)) := eW
    clear hdz eW
    subst hH'
    by_cases h12 : 12 ≤ d.size
    case neg =>
      have h12' : ¬ (12 : Int) ≤ (d.size : Int) := by omega
      have e : WB = false := by rw [eW2, show decide (12 ≤ d.size) = false by simpa using h12]; rfl
      subst e
      clear eW2 h12
      go_enter Tryd.func16, Tryd.ntmps16
      go_wp2_with fail
      refine CR.out.mono ?_
      rintro e w1 ⟨v, rfl, hT, hb⟩
      rw [HE.out]
      obtain ⟨a, cap, rfl, hL⟩ := hT.lst
      have HB := hide hb
      have CF1 := hide (CF.out a cap w1 hL)
      clear hT hb hL
      go_wp2_with fail
      refine CF1.out.mono ?_
      rintro e w2 ⟨rfl, hb2⟩
      have HB2 := hide (below_t5 HB.out hb2)
      clear hb2
      unfold fnR
      go_wp2_with fail
      go_ret
      exact ⟨rfl, HB2.out⟩
    have h12' : (12 : Int) ≤ (d.size : Int) := by omega
    have HW : Hid (WB = ((Z : Int) == 2981146554)) := hide (by
      rw [eW2, show decide (12 ≤ d.size) = true by simpa using h12, Bool.true_and]
      rw [Bool.eq_iff_iff]
      simp
      omega)
    clear eW2 h12
    go_enter Tryd.func16, Tryd.ntmps16
    go_wp2_with fail
    refine CR.out.mono ?_
    rintro e w1 ⟨v, rfl, hT, hb⟩
    rw [HE.out]
    obtain ⟨a, cap, rfl, hL⟩ := hT.lst
    have HB := hide hb
    have CF1 := hide (CF.out a cap w1 hL)
    clear hT hb hL
    go_wp2_with fail
    refine CF1.out.mono ?_
    rintro e w2 ⟨rfl, hb2⟩
    have HB2 := hide (below_t5 HB.out hb2)
    clear hb2
    unfold fnR
    go_wp2_with (go_at_call 10; refine (CS.out _).mono ?_; rintro e wy ⟨rfl, hy⟩; subst wy)
    go_ret
    exact ⟨by rw [HW.out]; rfl, HB2.out⟩
/- tags that rise are unlike -/
theorem less_trans : ∀ (a b c : List UInt8), Op.bytesLess a b = true → Op.bytesLess b c = true → Op.bytesLess a c = true
  | _, _, [], _, h => by simp [Op.bytesLess] at h
  | [], _, c :: z, _, _ => by simp [Op.bytesLess]
  | a :: x, [], c :: z, h, _ => by simp [Op.bytesLess] at h
  | a :: x, b :: y, c :: z, h1, h2 => by
    have ih := less_trans x y z
    simp only [Op.bytesLess, Bool.or_eq_true, Bool.and_eq_true, decide_eq_true_eq, beq_iff_eq] at *
    rcases h1 with h1 | ⟨rfl, h1⟩
    · rcases h2 with h2 | ⟨rfl, h2⟩
      · left; rw [UInt8.lt_iff_toNat_lt] at *; omega
      · left; exact h1
    · rcases h2 with h2 | ⟨rfl, h2⟩
      · left; exact h2
      · right; exact ⟨rfl, ih h1 h2⟩
theorem less_irrefl : ∀ (a : List UInt8), Op.bytesLess a a = false
  | [] => rfl
  | a :: x => by
    have : ¬ a < a := by rw [UInt8.lt_iff_toNat_lt]; omega
    simp [Op.bytesLess, this, less_irrefl x]
theorem rise_mem : ∀ (rs : List Rw) (a : List UInt8), riseB a rs = true → ∀ r ∈ rs, Op.bytesLess a (tgT r) = true
  | [], _, _, r, hr => by simp at hr
  | q :: rs, a, h, r, hr => by
    rw [riseB, Bool.and_eq_true, Bool.and_eq_true] at h
    rcases List.mem_cons.1 hr with rfl | hr
    · exact h.2.1
    · exact less_trans _ _ _ h.2.1 (rise_mem rs _ h.2.2 r hr)
theorem rise_ne : ∀ (rs : List Rw) (a : List UInt8), riseB a rs = true → ∀ (i j : Nat) (r q : Rw), i < j → rs[i]? = some r → rs[j]? = some q → tgT r ≠ tgT q
  | [], _, _, i, j, r, q, _, h, _ => by simp at h
  | p :: rs, a, h, i, j, r, q, hij, h1, h2 => by
    rw [riseB, Bool.and_eq_true, Bool.and_eq_true] at h
    obtain ⟨j', rfl⟩ : ∃ j', j = j' + 1 := ⟨j - 1, by omega⟩
    rw [List.getElem?_cons_succ] at h2
    cases i with
    | zero =>
      simp at h1
      subst h1
      intro e
      have := rise_mem rs _ h.2.2 q (List.mem_of_getElem? h2)
      rw [← e, less_irrefl] at this
      cases this
    | succ i => exact rise_ne rs _ h.2.2 i j' r q (by omega) (by simpa using h1) h2
theorem err_rise {s : ByteArray} (h : errV s.data.toList = 0) : riseB [0, 0, 0, 0] (rowsV s.data.toList (nTab s.data.toList)) = true ∧ hdB s.data.toList = true ∧ fauG s.data.toList s.data.toList.length (nTab s.data.toList) [] (rowsV s.data.toList (nTab s.data.toList)) 0 = 0 ∧ s.data.toList.length ≤ 1048576 := by
  unfold errV at h
  split at h
  · simp at h
  · rename_i hl
    cases e1 : hdB s.data.toList with
    | false => rw [e1] at h; simp at h
    | true =>
      cases e2 : riseB [0, 0, 0, 0] (rowsV s.data.toList (nTab s.data.toList)) with
      | false => rw [e1, e2] at h; simp at h
      | true => rw [e1, e2] at h; exact ⟨rfl, rfl, h, by omega⟩
theorem eq_hd (r : Rw) : eqS (⟨(tgT r).toArray⟩ : ByteArray) hdS = isHd r.b0 r.b1 r.b2 r.b3 := by
  have e : hdS.toList = [104, 101, 97, 100] := by rw [Lib.toList_data]
  unfold eqS
  rw [e]
  exact hd_eq r.b0 r.b1 r.b2 r.b3
theorem isHd_tag (r : Rw) (h : isHd r.b0 r.b1 r.b2 r.b3 = true) : tgT r = [104, 101, 97, 100] := by
  unfold isHd at h
  simp at h
  obtain ⟨⟨⟨h0, h1⟩, h2⟩, h3⟩ := h
  unfold tgT
  rw [h0, h1, h2, h3]
theorem fin_head {s : ByteArray} (h : errV s.data.toList = 0) (k : Nat) (r : Rw) (hr : (rowsV s.data.toList (nTab s.data.toList))[k]? = some r) (hh : isHd r.b0 r.b1 r.b2 r.b3 = true) : finV (tabV s) hdS = some (tbOf s r).2 := by
  have he := err_rise h
  have hT : tabV s = (rowsV s.data.toList (nTab s.data.toList)).map (tbOf s) := by unfold tabV; rw [if_pos h]
  rw [hT]
  refine finV_at _ k ?_ (by rw [List.getElem?_map, hr]; rfl) (by rw [show (tbOf s r).1 = ⟨(tgT r).toArray⟩ from rfl, eq_hd]; exact hh)
  intro i y hi hy
  rw [List.getElem?_map] at hy
  obtain ⟨q, hq, rfl⟩ := Option.map_eq_some_iff.1 hy
  rw [show (tbOf s q).1 = ⟨(tgT q).toArray⟩ from rfl, eq_hd]
  cases e : isHd q.b0 q.b1 q.b2 q.b3 with
  | false => rfl
  | true =>
    exfalso
    exact rise_ne _ _ he.1 i k q r hi hq hr (by rw [isHd_tag q e, isHd_tag r hh])
theorem fin_nohead {s : ByteArray} (h : errV s.data.toList = 0) (hno : ∀ (i : Nat) (r : Rw), (rowsV s.data.toList (nTab s.data.toList))[i]? = some r → ¬ (isHd r.b0 r.b1 r.b2 r.b3 = true ∧ 12 ≤ (tbOf s r).2.size)) : whoB s = false := by
  have hT : tabV s = (rowsV s.data.toList (nTab s.data.toList)).map (tbOf s) := by unfold tabV; rw [if_pos h]
  unfold whoB
  cases e : finV (tabV s) hdS with
  | none => rfl
  | some d =>
    rw [hT] at e
    unfold finV at e
    obtain ⟨x, hx, rfl⟩ := Option.map_eq_some_iff.1 e
    have h1 := List.mem_of_find?_eq_some hx
    have h2 := List.find?_some hx
    obtain ⟨r, hr, rfl⟩ := List.mem_map.1 h1
    obtain ⟨i, hi, rfl⟩ := List.getElem_of_mem hr
    have h3 := hno i _ (List.getElem?_eq_getElem hi)
    rw [show (tbOf s _).1 = ⟨(tgT _).toArray⟩ from rfl, eq_hd] at h2
    unfold whV
    simp only
    rw [show decide (12 ≤ (tbOf s (rowsV s.data.toList (nTab s.data.toList))[i]).2.size) = false by
      rw [decide_eq_false_iff_not]; intro h4; exact h3 ⟨h2, h4⟩]
    rfl
/- the sum with four bytes as 0 -/
theorem sumA_four' (b0 b1 b2 b3 : UInt8) (k : Nat) (h : k % 4 = 0) : sumA [b0, b1, b2, b3] k = b0.toNat * 16777216 + b1.toNat * 65536 + b2.toNat * 256 + b3.toNat := by
  unfold sumA sumA sumA sumA sumA
  rw [show k % 4 = 0 from h, show (k + 1) % 4 = 1 by omega, show (k + 1 + 1) % 4 = 2 by omega, show (k + 1 + 1 + 1) % 4 = 3 by omega]
  omega
theorem sum_zero (l : List UInt8) (P : Nat) (h4 : P % 4 = 0) (hP : P + 12 ≤ l.length) : sumV l = (sumV (l.take (P + 8) ++ ([0, 0, 0, 0] ++ l.drop (P + 12))) + n4 l (P + 8)) % 4294967296 := by
  have e : l = l.take (P + 8) ++ ([l[P + 8], l[P + 9], l[P + 10], l[P + 11]] ++ l.drop (P + 12)) := by
    conv => lhs; rw [← List.take_append_drop (P + 8) l]
    congr 1
    rw [List.drop_eq_getElem_cons (by omega), List.drop_eq_getElem_cons (by omega), List.drop_eq_getElem_cons (by omega), List.drop_eq_getElem_cons (by omega)]
    rfl
  have hl : (l.take (P + 8)).length = P + 8 := by rw [List.length_take]; omega
  have en : n4 l (P + 8) = l[P + 8].toNat * 16777216 + l[P + 9].toNat * 65536 + l[P + 10].toNat * 256 + l[P + 11].toNat := by
    unfold n4 n2 bt
    rw [List.getD_eq_getElem?_getD, List.getD_eq_getElem?_getD, List.getD_eq_getElem?_getD, List.getD_eq_getElem?_getD, List.getElem?_eq_getElem (by omega), List.getElem?_eq_getElem (by omega), List.getElem?_eq_getElem (by omega), List.getElem?_eq_getElem (by omega)]
    simp only [Option.getD_some, show P + 8 + 1 = P + 9 from rfl, show P + 8 + 2 = P + 10 from rfl, show P + 10 + 1 = P + 11 from rfl]
    omega
  rw [en]
  generalize l[P + 8] = c0 at e
  generalize l[P + 9] = c1 at e
  generalize l[P + 10] = c2 at e
  generalize l[P + 11] = c3 at e
  have e1 : sumA l 0 = sumA (l.take (P + 8)) 0 + (sumA [c0, c1, c2, c3] (0 + (P + 8)) + sumA (l.drop (P + 12)) (0 + (P + 8) + 4)) := by
    conv => lhs; rw [e]
    rw [sumA_append, sumA_append, hl]
    rfl
  have e2 : sumA (l.take (P + 8) ++ ([0, 0, 0, 0] ++ l.drop (P + 12))) 0 = sumA (l.take (P + 8)) 0 + (sumA [0, 0, 0, 0] (0 + (P + 8)) + sumA (l.drop (P + 12)) (0 + (P + 8) + 4)) := by
    rw [sumA_append, sumA_append, hl]
    rfl
  rw [sumA_four' _ _ _ _ _ (by omega)] at e1 e2
  unfold sumV
  rw [e1, e2]
  simp only [show (0 : UInt8).toNat = 0 from rfl]
  omega
theorem and_32n (t : Int) : bits BinOp.and .i64 t 4294967295 = t % 4294967296 := by
  have e : bits BinOp.and .i64 t 4294967295 = IntKind.i64.wrap (((BitVec.ofInt 64 t &&& BitVec.ofInt 64 4294967295).toNat : Nat) : Int) := rfl
  rw [e, BitVec.toNat_and]
  have h2 : (BitVec.ofInt 64 4294967295).toNat = 2 ^ 32 - 1 := by decide
  rw [h2, BitVec.toNat_ofInt, Nat.and_two_pow_sub_one_eq_mod, IntKind.wrap_i64]
  have h3 : (2 : Nat) ^ 32 = 4294967296 := by decide
  have h4 : (((2 : Nat) ^ 64 : Nat) : Int) = 18446744073709551616 := by decide
  rw [h3, h4]
  omega
theorem own_iff (X S Z : Nat) (hX : X < 4294967296) (h : Z = (S + X) % 4294967296) (hS : S < 4294967296) : ((X : Int) == (2981146554 - (S : Int)) % 4294967296) = decide (Z = 2981146554) := by
  rw [Bool.eq_iff_iff]
  simp
  omega
end Go.Proofs.YtgmmhlpdkoiheaaDoor
