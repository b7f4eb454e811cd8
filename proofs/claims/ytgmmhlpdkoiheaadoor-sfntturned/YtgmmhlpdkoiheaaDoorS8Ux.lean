/-
  A byte that is turned in a file that was built. Pure.
-/
import Derived.Test.YtgmmhlpdkoiheaaDoorBT
namespace Go.Proofs.YtgmmhlpdkoiheaaDoor
open Go.RowKit Go.Deep
set_option linter.unusedVariables false
set_option linter.unusedSectionVars false

theorem sum_set (l : List UInt8) (i : Nat) (c : UInt8) (h : i < l.length) (hne : c ≠ l[i]) : sumV (l.set i c) ≠ sumV l := by
  have e1 : l.set i c = l.take i ++ (c :: l.drop (i + 1)) := by rw [List.set_eq_take_append_cons_drop, if_pos h]
  have e2 : l = l.take i ++ (l[i] :: l.drop (i + 1)) := by
    conv => lhs; rw [← List.take_append_drop i l, List.drop_eq_getElem_cons h]
  have hl : (l.take i).length = i := by rw [List.length_take]; omega
  have s1 : sumA (l.set i c) 0 = sumA (l.take i) 0 + (c.toNat * 2 ^ (24 - 8 * (i % 4)) + sumA (l.drop (i + 1)) (i + 1)) := by
    rw [e1, sumA_append, hl, Nat.zero_add, sumA]
  have s2 : sumA l 0 = sumA (l.take i) 0 + (l[i].toNat * 2 ^ (24 - 8 * (i % 4)) + sumA (l.drop (i + 1)) (i + 1)) := by
    conv => lhs; rw [e2]
    rw [sumA_append, hl, Nat.zero_add, sumA]
  have hc := c.toNat_lt
  have hx := l[i].toNat_lt
  have hn : c.toNat ≠ l[i].toNat := fun e => hne (UInt8.toNat_inj.1 e)
  unfold sumV
  rw [s1, s2]
  generalize sumA (l.take i) 0 = A
  generalize sumA (l.drop (i + 1)) (i + 1) = B
  generalize l[i].toNat = x at *
  generalize c.toNat = y at *
  rcases (show i % 4 = 0 ∨ i % 4 = 1 ∨ i % 4 = 2 ∨ i % 4 = 3 by omega) with h | h | h | h
  · rw [h, show 2 ^ (24 - 8 * 0) = 16777216 from rfl]; omega
  · rw [h, show 2 ^ (24 - 8 * 1) = 65536 from rfl]; omega
  · rw [h, show 2 ^ (24 - 8 * 2) = 256 from rfl]; omega
  · rw [h, show 2 ^ (24 - 8 * 3) = 1 from rfl]; omega
theorem piece_set (T : List UInt8) (k a b : Nat) (c : UInt8) (ha : a ≤ k) : ((T.set k c).drop a).take b = ((T.drop a).take b).set (k - a) c := by
  apply List.ext_getElem?
  intro i
  simp only [List.getElem?_set, piece_get, List.length_take, List.length_drop]
  repeat' split
  all_goals first | rfl | (exfalso; omega)
theorem piece_off (T : List UInt8) (k a b : Nat) (c : UInt8) (h : k < a ∨ a + b ≤ k) : ((T.set k c).drop a).take b = (T.drop a).take b := by
  apply List.ext_getElem?
  intro i
  rw [piece_get, piece_get]
  split
  · rw [List.getElem?_set, if_neg (by omega)]
  · rfl
theorem put_set (d : List UInt8) (i : Nat) (c : UInt8) (h12 : 12 ≤ d.length) (hi : i < 8 ∨ 12 ≤ i) : putA (d.set i c) 8 [0, 0, 0, 0] = (putA d 8 [0, 0, 0, 0]).set i c := by
  have hz : ([0, 0, 0, 0] : List UInt8).length = 4 := rfl
  apply List.ext_getElem?
  intro j
  rw [putA_get _ _ _ _ (by rw [hz, List.length_set]; omega), hz]
  have e : ((putA d 8 [0, 0, 0, 0]).set i c)[j]? = if i = j then (if i < d.length then some c else none) else if j < 8 then d[j]? else if j < 8 + 4 then ([0, 0, 0, 0] : List UInt8)[j - 8]? else d[j]? := by
    rw [List.getElem?_set, putA_len _ _ _ (by rw [hz]; omega), putA_get _ _ _ _ (by rw [hz]; omega), hz]
  rw [e]
  simp only [List.getElem?_set]
  repeat' split
  all_goals first | rfl | (exfalso; omega)
section
variable {m : List Tab} {n k : Nat} {c : UInt8} (hgo : goM m) (hn : m.length = n) (h1 : 1 ≤ n) (h2 : n ≤ 32) (hsz : plT m n ≤ 1048576) (hk1 : 12 + 16 * n ≤ k) (hk2 : k < (txtV m).length) (hc : c ≠ (txtV m)[k])
include hgo hn h1 h2 hsz hk1 hk2 hc
theorem turn_laid : Laid m n ((txtV m).set k c) := by
  obtain ⟨hL, _⟩ := txt_both hgo hn
  refine ⟨by rw [List.length_set]; exact hL.len, ?_⟩
  have := piece_off (txtV m) k 0 (12 + 16 * n) c (Or.inr (by omega))
  rw [List.drop_zero, List.drop_zero] at this
  rw [this]; exact hL.hd
theorem turn_err : errV ((txtV m).set k c) = 0 ∨ errV ((txtV m).set k c) = 81 := by
  have hL := turn_laid hgo hn h1 h2 hsz hk1 hk2 hc
  rw [laid_err hL hgo hn h1 h2 hsz]
  split
  · exact Or.inl rfl
  · exact Or.inr rfl
theorem turn_who (hE : errV ((txtV m).set k c) = 0) : tabV ⟨((txtV m).set k c).toArray⟩ = bkM m n ∨ whoB ⟨((txtV m).set k c).toArray⟩ = false := by
  have hL := turn_laid hgo hn h1 h2 hsz hk1 hk2 hc
  obtain ⟨hL0, hP⟩ := txt_both hgo hn
  have hall := laid_err hL hgo hn h1 h2 hsz
  rw [hE] at hall
  have hall' : ((List.range n).map (rwM m)).all (smB ((txtV m).set k c)) = true := by
    cases e : ((List.range n).map (rwM m)).all (smB ((txtV m).set k c)) with
    | true => rfl
    | false => rw [e] at hall; simp at hall
  by_cases hin : ∃ j, j < n ∧ plT m j ≤ k ∧ k < plT m j + (m.getD j tz).2.size
  · right
    obtain ⟨j, hj, hk3, hk4⟩ := hin
    have h4 := h4_of hgo hn hj
    have hsm := List.all_eq_true.1 hall' (rwM m j) (List.mem_map.2 ⟨j, List.mem_range.2 hj, rfl⟩)
    rw [sm_iff, beq_iff_eq] at hsm
    obtain ⟨d, hd⟩ : ∃ d, bkD m n j = d := ⟨_, rfl⟩
    have hdl : d.length = (m.getD j tz).2.size := by rw [← hd]; exact bkD_len m n j
    have hpc : pcT m ((txtV m).set k c) j = d.set (k - plT m j) c := by
      unfold pcT
      rw [piece_set _ _ _ _ _ hk3, ← hd, ← hP j hj]; rfl
    have hi : k - plT m j < d.length := by omega
    have hdi : d[k - plT m j] = (txtV m)[k] := by
      have e := hP j hj
      rw [hd] at e
      have e2 : d[k - plT m j]? = (txtV m)[k]? := by
        rw [← e]
        unfold pcT
        rw [piece_get, if_pos (by omega)]
        congr 1; omega
      rw [List.getElem?_eq_getElem hi, List.getElem?_eq_getElem hk2] at e2
      injection e2
    have hne : c ≠ d[k - plT m j] := by rw [hdi]; exact hc
    have hsb := smd_bk m n j h4
    rw [hd] at hsb
    rw [← hsb, hpc, smd_of m j d h4 hdl, smd_of m j _ h4 (by rw [List.length_set]; exact hdl)] at hsm
    cases hH : isH m j with
    | false =>
      rw [hH] at hsm
      exact absurd hsm.symm (sum_set d _ c hi hne)
    | true =>
      rw [hH, if_pos rfl, if_pos rfl] at hsm
      have hH' := hH
      unfold isH at hH'
      rw [Bool.and_eq_true, decide_eq_true_eq] at hH'
      have h12 : 12 ≤ d.length := by omega
      have p1 : d.take 8 ++ ([0, 0, 0, 0] ++ d.drop 12) = putA d 8 [0, 0, 0, 0] := rfl
      have p2 : (d.set (k - plT m j) c).take 8 ++ ([0, 0, 0, 0] ++ (d.set (k - plT m j) c).drop 12) = putA (d.set (k - plT m j) c) 8 [0, 0, 0, 0] := rfl
      rw [p1, p2] at hsm
      by_cases hpos : k - plT m j < 8 ∨ 12 ≤ k - plT m j
      · exfalso
        rw [put_set d _ c h12 hpos] at hsm
        have hlen := putA_len d [0, 0, 0, 0] 8 (show 8 + 4 ≤ d.length from h12)
        have hg := putA_get d [0, 0, 0, 0] 8 (k - plT m j) (show 8 + 4 ≤ d.length from h12)
        have hi' : k - plT m j < (putA d 8 [0, 0, 0, 0]).length := by omega
        refine sum_set (putA d 8 [0, 0, 0, 0]) (k - plT m j) c hi' ?_ hsm.symm
        have e2 : (putA d 8 [0, 0, 0, 0])[k - plT m j]? = d[k - plT m j]? := by
          rw [hg]
          rcases hpos with h | h
          · rw [if_pos h]
          · rw [if_neg (by omega), if_neg (by show ¬ _ < 8 + 4; omega)]
        rw [List.getElem?_eq_getElem hi', List.getElem?_eq_getElem hi] at e2
        injection e2 with e2
        rw [e2]; exact hne
      · have hs := sum_set (txtV m) k c hk2 hc
        rcases ow_cases m n hn hgo with ⟨_, hno⟩ | ⟨h, hh, hHh, ho, _⟩
        · have := hno j hj
          rw [hH] at this; cases this
        · rw [txt_sum hgo hn hh hHh ho] at hs
          unfold whoB whV
          split
          · rfl
          · rw [show decide (sumV (⟨((txtV m).set k c).toArray⟩ : ByteArray).data.toList = 2981146554) = false by rw [decide_eq_false_iff_not]; exact hs]
            simp
  · left
    rw [laid_tab hL hgo hn h1 h2 hsz hE]
    unfold bkM
    apply List.map_congr_left
    intro j hj
    have hj := List.mem_range.1 hj
    unfold pcS bkS
    have e : pcT m ((txtV m).set k c) j = bkD m n j := by
      rw [← hP j hj]
      unfold pcT
      refine piece_off _ _ _ _ _ ?_
      rcases Nat.lt_or_ge k (plT m j) with h | h
      · exact Or.inl h
      · exact Or.inr (Nat.le_of_not_lt fun h' => hin ⟨j, hj, h, h'⟩)
    rw [e]
end
/- a byte turned by one that is not 0 -/
theorem xor_u8 (x v : UInt8) : bits BinOp.xor .u8 (x.toNat : Int) (v.toNat : Int) = (((x ^^^ v).toNat : Nat) : Int) := by
  have e : bits BinOp.xor .u8 (x.toNat : Int) (v.toNat : Int) = IntKind.u8.wrap (((BitVec.ofInt 8 (x.toNat : Int) ^^^ BitVec.ofInt 8 (v.toNat : Int)).toNat : Nat) : Int) := rfl
  have hx := x.toNat_lt
  have hv := v.toNat_lt
  have h1 : (BitVec.ofInt 8 (x.toNat : Int)).toNat = x.toNat := by rw [BitVec.toNat_ofInt]; omega
  have h2 : (BitVec.ofInt 8 (v.toNat : Int)).toNat = v.toNat := by rw [BitVec.toNat_ofInt]; omega
  rw [e, BitVec.toNat_xor, h1, h2, UInt8.toNat_xor]
  have h3 : x.toNat ^^^ v.toNat < 2 ^ 8 := Nat.xor_lt_two_pow hx hv
  have h4 : (2 : Nat) ^ 8 = 256 := by decide
  rw [h4] at h3
  simp [IntKind.wrap, IntKind.bits, IntKind.signed]
  omega
theorem xor_ne (x v : UInt8) (h : v ≠ 0) : x ^^^ v ≠ x := fun e => h (by
  have : x ^^^ (x ^^^ v) = x ^^^ x := by rw [e]
  rw [← UInt8.xor_assoc, UInt8.xor_self, UInt8.zero_xor] at this
  exact this)
end Go.Proofs.YtgmmhlpdkoiheaaDoor
