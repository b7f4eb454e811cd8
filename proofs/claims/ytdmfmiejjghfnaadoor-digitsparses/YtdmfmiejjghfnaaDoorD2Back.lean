/-
  What Text writes is read as it was.
-/
import Derived.Test.YtdmfmiejjghfnaaDoorD2Parse
namespace Go.Proofs.YtdmfmiejjghfnaaDoor
open Go.RowKit Go.Lib

theorem dec_more' (u : Nat) (h : ¬ u < 10) : decDigits u = decDigits (u / 10) ++ [dgB (u % 10)] := by
  rw [decDigits, dif_neg h]
  rfl
theorem dec_one' (u : Nat) (h : u < 10) : decDigits u = [dgB u] := decDigits_one h
theorem dec_spec (u : Nat) : (decDigits u).all isDig = true ∧ val (decDigits u) = u := by
  induction u using Nat.strongRecOn with
  | _ u ih =>
    by_cases h : u < 10
    · rw [dec_one' u h]
      refine ⟨by simp [(dgB_dig u h).1], ?_⟩
      rw [show [dgB u] = [] ++ [dgB u] from rfl, val_snoc, (dgB_dig u h).2]
      simp [val]
    · obtain ⟨h1, h2⟩ := ih (u / 10) (by omega)
      rw [dec_more' u h]
      have hd := dgB_dig (u % 10) (by omega)
      refine ⟨by rw [List.all_append, h1]; simp [hd.1], ?_⟩
      rw [val_snoc, h2, hd.2]
      omega
theorem fdig_spec (f r : Nat) (hf : f ≤ 16) (hr : r < 65536) (h2 : 2 ^ (16 - f) ∣ r) : (fdig f r).all isDig = true ∧ val (fdig f r) * 65536 = r * 10 ^ (fdig f r).length := by
  induction f generalizing r with
  | zero =>
    obtain ⟨c, hc⟩ := h2
    have : r = 0 := by
      rcases Nat.eq_zero_or_pos c with h | h
      · rw [hc, h]
      · have := Nat.mul_le_mul_left (2 ^ (16 - 0)) h
        omega
    rw [this]
    simp [fdig, val]
  | succ f ih =>
    unfold fdig
    by_cases h0 : r = 0
    · rw [if_pos h0, h0]
      simp [val]
    · rw [if_neg h0]
      obtain ⟨c, hc⟩ := h2
      have d2 : 2 ^ (16 - f) ∣ r * 10 % 65536 := by
        have d1 : 2 ^ (16 - f) ∣ r * 10 := ⟨c * 5, by rw [hc, show 16 - f = (16 - (f + 1)) + 1 by omega, Nat.pow_succ, show (10 : Nat) = 2 * 5 from rfl, Nat.mul_assoc (2 ^ (16 - (f + 1))) 2, Nat.mul_assoc (2 ^ (16 - (f + 1))) c]; congr 1; omega⟩
        have d3 : 2 ^ (16 - f) ∣ 65536 := by
          rw [show (65536 : Nat) = 2 ^ 16 from rfl]
          exact Nat.pow_dvd_pow 2 (by omega)
        exact (Nat.dvd_mod_iff d3).2 d1
      obtain ⟨i1, i2⟩ := ih (r * 10 % 65536) (by omega) (by omega) d2
      have hd := dgB_dig (r * 10 / 65536) (by omega)
      refine ⟨by rw [List.all_cons, hd.1, i1]; rfl, ?_⟩
      rw [val_cons, hd.2, List.length_cons, Nat.pow_succ, Nat.add_mul, i2]
      generalize 10 ^ (fdig f (r * 10 % 65536)).length = T
      have e1 : r * 10 / 65536 * T * 65536 = (r * 10 / 65536 * 65536) * T := by rw [Nat.mul_right_comm]
      have e2 : r * (T * 10) = (r * 10) * T := by rw [Nat.mul_comm T 10, ← Nat.mul_assoc]
      have e3 : r * 10 / 65536 * 65536 + r * 10 % 65536 = r * 10 := Nat.div_add_mod' _ _
      rw [e1, e2, ← Nat.add_mul, e3]
theorem occ_none (s : List UInt8) (h : s.all isDig = true) (i : Nat) : occAt s [46] i = false := by
  unfold occAt
  cases hd : s.drop i with
  | nil => rfl
  | cons c r =>
    have hc : isDig c = true := by
      rw [List.all_eq_true] at h
      exact h c (List.mem_of_mem_drop (by rw [hd]; simp))
    have : c ≠ 46 := by intro e; rw [e] at hc; exact absurd hc (by decide)
    simp [List.isPrefixOf, Ne.symm this]
theorem cut_dig (s : List UInt8) (h : s.all isDig = true) : cut s [46] = (s, [], false) := by
  unfold cut
  rw [index_none (fun j _ => occ_none s h j)]
  rfl
theorem cut_point (s t : List UInt8) (h : s.all isDig = true) : cut (s ++ 46 :: t) [46] = (s, t, true) := by
  have hi : index (s ++ 46 :: t) [46] = s.length := by
    refine index_first (by simp) ?_ ?_
    · unfold occAt; simp [List.isPrefixOf]
    · intro j hj
      unfold occAt
      rw [List.drop_append_of_le_length (by omega)]
      have := occ_none s h j
      unfold occAt at this
      have hne : s.drop j ≠ [] := by simp; omega
      cases hd : s.drop j with
      | nil => exact absurd hd hne
      | cons c r =>
        rw [hd] at this
        simpa [List.isPrefixOf] using this
  unfold cut
  rw [hi, if_pos (by omega)]
  simp
theorem head_dig (c : UInt8) (h : isDig c = true) : c ≠ 45 := by intro e; rw [e] at h; exact absurd h (by decide)

/- a sign, digits, and a fraction's digits behind a point, or none -/
def ptF : Option (List UInt8) → List UInt8
  | none => []
  | some fs => 46 :: fs
def numL (ng : Bool) (ds : List UInt8) (fo : Option (List UInt8)) : List UInt8 := (if ng then [45] else []) ++ ds ++ ptF fo
theorem num_parts (ng : Bool) (ds : List UInt8) (fo : Option (List UInt8)) (h1 : ds.all isDig = true) (h0 : ds ≠ []) :
    negP (numL ng ds fo) = ng ∧ whP (numL ng ds fo) = ds ∧ frP (numL ng ds fo) = fo.getD [] ∧ ptP (numL ng ds fo) = fo.isSome := by
  obtain ⟨c, r, e⟩ := List.exists_cons_of_ne_nil h0
  have hc : c ≠ 45 := by
    apply head_dig
    rw [e] at h1
    simp only [List.all_cons, Bool.and_eq_true] at h1
    exact h1.1
  have hneg : negP (numL ng ds fo) = ng := by
    unfold negP numL hasPrefix
    cases ng
    · rw [e]; simp [List.isPrefixOf, Ne.symm hc]
    · simp [List.isPrefixOf]
  have hnum : numP (numL ng ds fo) = ds ++ ptF fo := by
    unfold numP trimPrefix
    rw [show hasPrefix (numL ng ds fo) [45] = ng from hneg]
    cases ng
    · simp [numL]
    · simp [numL]
  have hcut : cut (numP (numL ng ds fo)) [46] = (ds, fo.getD [], fo.isSome) := by
    rw [hnum]
    cases fo with
    | none => rw [show ptF none = [] from rfl, List.append_nil]; exact cut_dig ds h1
    | some fs => exact cut_point ds fs h1
  refine ⟨hneg, ?_, ?_, ?_⟩
  · unfold whP; rw [hcut]
  · unfold frP; rw [hcut]
  · unfold ptP; rw [hcut]
theorem near_num (ng : Bool) (ds : List UInt8) (fo : Option (List UInt8)) (h1 : ds.all isDig = true) (h0 : ds ≠ []) (hf : ∀ fs, fo = some fs → digs fs = true) (hl : (numL ng ds fo).length ≤ 40)
    (X : Int) (hX : X = if ng then -((val ds * 65536 + nUp ng (fo.getD []) : Nat) : Int) else ((val ds * 65536 + nUp ng (fo.getD []) : Nat) : Int)) (hin : inB X = true) : nearP (numL ng ds fo) = (X, 0) := by
  obtain ⟨k1, k2, k3, k4⟩ := num_parts ng ds fo h1 h0
  have hok : okP (numL ng ds fo) = true := by
    unfold okP
    rw [k2, k3, k4]
    have : digs ds = true := by unfold digs; rw [h1]; cases ds; exact absurd rfl h0; rfl
    rw [this]
    cases fo with
    | none => rfl
    | some fs => simp [hf fs rfl]
  have hs : sgnP (numL ng ds fo) = X := by
    unfold sgnP magP
    rw [k1, k2, k3, hX]
  unfold nearP
  rw [if_neg (by omega), hok, if_neg (by simp), hs, hin]
  rfl

theorem textL_num (x : Int) : textL x = numL (decide (x < 0)) (decDigits (x.natAbs / 65536)) (if x.natAbs % 65536 = 0 then none else some (fdig 16 (x.natAbs % 65536))) := by
  unfold textL numL frac ptF
  by_cases h1 : x < 0
  · by_cases h2 : x.natAbs % 65536 = 0
    · simp [h1, h2]
    · simp [h1, h2]
  · by_cases h2 : x.natAbs % 65536 = 0
    · simp [h1, h2]
    · simp [h1, h2]
theorem textL_len (x : Int) (h : inB x = true) : (textL x).length ≤ 26 := by
  have hb := inB_bd h
  have h1 := (dec_len (x.natAbs / 65536) (by omega)).1
  have h2 := fdig_len 16 (x.natAbs % 65536)
  unfold textL frac
  split <;> split <;> simp <;> omega
theorem back_any (x : Int) (h : inB x = true) : nearP (textL x) = (x, 0) := by
  have hlen := textL_len x h
  rw [textL_num] at hlen ⊢
  have hd := dec_spec (x.natAbs / 65536)
  have hne : decDigits (x.natAbs / 65536) ≠ [] := by
    have := (dec_len (x.natAbs / 65536) (by have := inB_bd h; omega)).2
    intro e
    rw [e] at this
    simp at this
  obtain ⟨f1, f2⟩ := fdig_spec 16 (x.natAbs % 65536) (by omega) (by omega) (by simp)
  have hfn : ∀ ng, nUp ng ((if x.natAbs % 65536 = 0 then none else some (fdig 16 (x.natAbs % 65536)) : Option (List UInt8)).getD []) = x.natAbs % 65536 := by
    intro ng
    by_cases h0 : x.natAbs % 65536 = 0
    · rw [if_pos h0, h0]
      exact nUp_nil ng
    · rw [if_neg h0]
      show nUp ng (fdig 16 (x.natAbs % 65536)) = _
      unfold nUp
      have hp : 0 < 10 ^ (fdig 16 (x.natAbs % 65536)).length := Nat.pow_pos (by decide)
      rw [f2, Nat.mul_div_cancel _ hp, Nat.mul_mod_left, if_neg (by omega)]
      rfl
  refine near_num _ _ _ hd.1 hne ?_ (by omega) x ?_ h
  · intro fs e
    by_cases h0 : x.natAbs % 65536 = 0
    · rw [if_pos h0] at e; cases e
    · rw [if_neg h0] at e
      obtain rfl := Option.some.inj e
      unfold digs
      rw [f1]
      unfold fdig
      rw [if_neg h0]
      rfl
  · rw [hfn, hd.2]
    by_cases h0 : x < 0
    · rw [decide_eq_true h0, if_pos rfl]; omega
    · rw [decide_eq_false h0, if_neg (by simp)]; omega
theorem back_parse (x : Int) (h : inB x = true) : parB (textL x) = true ∧ parV (textL x) = x := by
  have hb := back_any x h
  have h1 : parB (textL x) = true := by unfold parB; rw [hb]; simp
  refine ⟨h1, ?_⟩
  unfold parV
  rw [h1, hb]
  rfl
end Go.Proofs.YtdmfmiejjghfnaaDoor
