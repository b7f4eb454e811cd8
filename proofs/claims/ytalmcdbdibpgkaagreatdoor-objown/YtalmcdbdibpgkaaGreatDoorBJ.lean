/-
  Joined: E2Half, E2Dbl, E2Bits, E2Form, E2RNear, E2RNearP, E2RParse.
-/
import Derived.Test.YtalmcdbdibpgkaaGreatDoorBA
import Derived.Test.YtalmcdbdibpgkaaGreatDoorBE
import Derived.Laws.OwnMore
import Derived.Test.YtalmcdbdibpgkaaGreatDoorBI
/-
  What the reference's half (chapter 2) answers: are digits, as a fraction, below a half, a half, above?
-/
namespace Go.Proofs.YtalmcdbdibpgkaaGreatDoor.D2
set_option maxRecDepth 8000
open Go.RowKit

/- are all but the first one 0? -/
def restZ (zs : List Int) : Bool := (List.range zs.length).all fun i => decide (i = 0) || decide (zs.getD i 0 = 0)
theorem restZ_t (zs : List Int) (h : ∀ i, 1 ≤ i → i < zs.length → zs.getD i 0 = 0) : restZ zs = true := by
  unfold restZ
  rw [List.all_eq_true]
  intro i hi
  rw [List.mem_range] at hi
  by_cases h0 : i = 0
  · simp [h0]
  · rw [h i (by omega) hi]; simp
theorem restZ_f (zs : List Int) (i : Nat) (h1 : 1 ≤ i) (h2 : i < zs.length) (h : zs.getD i 0 ≠ 0) : restZ zs = false := by
  unfold restZ
  rw [List.all_eq_false]
  refine ⟨i, List.mem_range.2 h2, ?_⟩
  rw [Bool.not_eq_true, Bool.or_eq_false_iff]
  exact ⟨decide_eq_false (by omega), decide_eq_false h⟩
def hfV (zs : List Int) : Int := if zs = [] ∨ zs.getD 0 0 < 5 then -1 else if 5 < zs.getD 0 0 then 1 else if restZ zs then 0 else 1

theorem half_core (a : Option Addr) (len cap : Nat) (zs : List Int) (w : World) (hl : zs.length = len) (h4 : len ≤ 4096) (hL : Lst w a zs) (V : Int) (hV : V = hfV zs) :
    Calls Tryz.prog 121 #[.slice a len cap] w fun e w' => e = .returned (.int .i64 V) ∧ w' = w := by
  have h5 : (len : Int) ≤ 4096 := by omega
  rcases hL with hz | ⟨b, off, rfl, hb, hcell⟩
  · obtain rfl : len = 0 := by rw [← hl, hz]; rfl
    obtain rfl : V = -1 := by rw [hV]; unfold hfV; rw [if_pos (Or.inl hz)]
    clear hV hl hz
    go_enter Tryz.func121, Tryz.ntmps121
    go_wp2
    go_ret
    exact ⟨rfl, rfl⟩
  by_cases h0 : len = 0
  · obtain rfl : V = -1 := by rw [hV]; unfold hfV; rw [if_pos (Or.inl (List.eq_nil_of_length_eq_zero (by omega)))]
    subst h0
    clear hV hl hcell
    go_enter Tryz.func121, Tryz.ntmps121
    go_wp2
    go_ret
    exact ⟨rfl, rfl⟩
  have hne : zs ≠ [] := by intro h; rw [h] at hl; simp at hl; omega
  have hc0 := hcell 0 (by omega)
  rw [Nat.add_zero] at hc0
  have hp : ((len : Int) == 0) = false := by rw [beq_eq_false_iff_ne]; omega
  have hp1 : (0 : Int) < (len : Int) := by omega
  obtain ⟨z, hz⟩ : ∃ z, zs.getD 0 0 = z := ⟨_, rfl⟩
  rw [hz] at hc0
  unfold hfV at hV
  rw [hz] at hV
  by_cases k1 : z < 5
  · obtain rfl : V = -1 := by rw [hV, if_pos (Or.inr k1)]
    clear hV hl hcell hz hne
    go_enter Tryz.func121, Tryz.ntmps121
    go_wp2
    go_ret
    exact ⟨rfl, rfl⟩
  rw [if_neg (by intro h; rcases h with h | h; exact hne h; exact k1 h)] at hV
  by_cases k2 : 5 < z
  · obtain rfl : V = 1 := by rw [hV, if_pos k2]
    clear hV hl hcell hz hne
    go_enter Tryz.func121, Tryz.ntmps121
    go_wp2
    go_ret
    exact ⟨rfl, rfl⟩
  rw [if_neg k2] at hV
  have HV := hide hV
  have HC := hide hcell
  have Hl := hide hl
  clear hV hl hcell hz hne
  go_enter Tryz.func121, Tryz.ntmps121
  go_wp2_with fail
  go_loop [3] (fun vi => ∃ k : Nat, vi = .int .i64 k ∧ Hid (1 ≤ k ∧ k ≤ len ∧ ∀ i, 1 ≤ i → i < k → zs.getD i 0 = 0)) (fun vi => len - (intOf vi).toNat)
  case atStart => exact ⟨1, rfl, hide ⟨by omega, by omega, fun i h1 h2 => absurd h2 (by omega)⟩⟩
  case round =>
    obtain ⟨k, rfl, HR⟩ := hrel
    have hk := HR.out.1
    by_cases hlt : k < len
    · have hlt' : (k : Int) < (len : Int) := by omega
      have hc := HC.out k (by have := Hl.out; omega)
      have hf := restZ_f zs k hk (by have := Hl.out; omega)
      obtain ⟨y, hy⟩ : ∃ y, zs.getD k 0 = y := ⟨_, rfl⟩
      rw [hy] at hc hf
      have HY := hide hy
      by_cases hy0 : y = 0
      · have f1 : (y != 0) = false := by simp [hy0]
        clear hf hy
        have HY0 := hide hy0
        clear hy0
        go_wp2
        go_round
        case rel =>
          refine ⟨k + 1, by go_num, hide ⟨by omega, by omega, fun i h1 h2 => ?_⟩⟩
          by_cases hik : i = k
          · rw [hik, HY.out, HY0.out]
          · exact HR.out.2.2 i h1 (by omega)
        case measure => simp [intOf]; omega
      · have f1 : (y != 0) = true := by rw [bne_iff_ne]; exact hy0
        obtain rfl : V = 1 := by rw [HV.out, hf hy0]; rfl
        clear hf hy HV hy0
        go_wp2
        go_ret
        exact ⟨rfl, rfl⟩
    · have hlt' : ¬ (k : Int) < (len : Int) := by omega
      obtain rfl : V = 0 := by
        rw [HV.out, restZ_t zs (fun i h1 h2 => HR.out.2.2 i h1 (by have := Hl.out; omega))]; rfl
      clear HV
      go_wp2
      go_ret
      exact ⟨rfl, rfl⟩
theorem half_any (a : Option Addr) (len cap : Nat) (zs : List Int) (w : World) (hl : zs.length = len) (h4 : len ≤ 4096) (hL : Lst w a zs) :
    Calls Tryz.prog 121 #[.slice a len cap] w fun e w' => e = .returned (.int .i64 (hfV zs)) ∧ w' = w :=
  half_core a len cap zs w hl h4 hL _ rfl
end Go.Proofs.YtalmcdbdibpgkaaGreatDoor.D2
/-
  A fraction's digits doubled again and again: what is carried out, and the digits that are left.
-/
namespace Go.Proofs.YtalmcdbdibpgkaaGreatDoor.D2
set_option maxRecDepth 8000
open Go.RowKit

def valN : List Nat → Nat
  | [] => 0
  | d :: l => d * 10 ^ l.length + valN l
def dbl : List Nat → Nat × List Nat
  | [] => (0, [])
  | d :: l => ((2 * d + (dbl l).1) / 10, (2 * d + (dbl l).1) % 10 :: (dbl l).2)
theorem dbl_cons (d : Nat) (l : List Nat) : dbl (d :: l) = ((2 * d + (dbl l).1) / 10, (2 * d + (dbl l).1) % 10 :: (dbl l).2) := rfl
def smallD (l : List Nat) : Prop := ∀ d ∈ l, d ≤ 9
theorem dbl_len (l : List Nat) : (dbl l).2.length = l.length := by
  induction l with
  | nil => rfl
  | cons d l ih => rw [dbl_cons]; simp [ih]
theorem dbl_small (l : List Nat) : smallD (dbl l).2 := by
  induction l with
  | nil => intro d h; cases h
  | cons c l ih =>
    rw [dbl_cons]
    intro d h
    rcases List.mem_cons.1 h with rfl | h
    · omega
    · exact ih d h
theorem dbl_one (l : List Nat) (h : smallD l) : (dbl l).1 ≤ 1 := by
  induction l with
  | nil => decide
  | cons d l ih =>
    have h1 := h d (by simp)
    have h2 := ih (fun x hx => h x (by simp [hx]))
    rw [dbl_cons]
    show (2 * d + (dbl l).1) / 10 ≤ 1
    omega
theorem dbl_val (l : List Nat) : (dbl l).1 * 10 ^ l.length + valN (dbl l).2 = 2 * valN l := by
  induction l with
  | nil => rfl
  | cons d l ih =>
    rw [dbl_cons]
    simp only [valN, List.length_cons, Nat.pow_succ]
    rw [dbl_len]
    generalize 10 ^ l.length = T at *
    generalize hP : 2 * d + (dbl l).1 = P
    have h1 : P / 10 * 10 + P % 10 = P := Nat.div_add_mod' _ _
    have h2 : P / 10 * (T * 10) + P % 10 * T = P * T := by rw [Nat.mul_comm T 10, ← Nat.mul_assoc, ← Nat.add_mul, h1]
    have h3 : P * T = 2 * d * T + (dbl l).1 * T := by rw [← hP, Nat.add_mul]
    have h4 : 2 * (d * T + valN l) = 2 * d * T + 2 * valN l := by rw [Nat.mul_add, Nat.mul_assoc]
    omega
theorem valN_lt (l : List Nat) (h : smallD l) : valN l < 10 ^ l.length := by
  induction l with
  | nil => decide
  | cons d l ih =>
    have h1 := h d (by simp)
    have h2 := ih (fun x hx => h x (by simp [hx]))
    simp only [valN, List.length_cons, Nat.pow_succ]
    have h3 : d * 10 ^ l.length ≤ 9 * 10 ^ l.length := Nat.mul_le_mul_right _ h1
    omega
/- k doublings -/
def dblK : Nat → List Nat → Nat × List Nat
  | 0, l => (0, l)
  | k + 1, l => (2 * (dblK k l).1 + (dbl (dblK k l).2).1, (dbl (dblK k l).2).2)
theorem dblK_spec (k : Nat) (l : List Nat) (h : smallD l) : (dblK k l).2.length = l.length ∧ smallD (dblK k l).2 ∧ (dblK k l).1 * 10 ^ l.length + valN (dblK k l).2 = 2 ^ k * valN l := by
  induction k with
  | zero => refine ⟨rfl, h, ?_⟩; simp [dblK]
  | succ k ih =>
    obtain ⟨h1, h2, h3⟩ := ih
    have hv := dbl_val (dblK k l).2
    simp only [dblK]
    refine ⟨by rw [dbl_len, h1], dbl_small _, ?_⟩
    rw [h1] at hv
    rw [Nat.add_mul, Nat.pow_succ, Nat.mul_comm (2 ^ k) 2, Nat.mul_assoc 2 (2 ^ k), ← h3, Nat.mul_add, ← Nat.mul_assoc 2]
    omega
theorem dblK_le (k : Nat) (l : List Nat) (h : smallD l) : (dblK k l).1 < 2 ^ k := by
  obtain ⟨_, _, h3⟩ := dblK_spec k l h
  have hl := valN_lt l h
  have hT : 0 < 10 ^ l.length := Nat.pow_pos (by decide)
  rcases Nat.lt_or_ge (dblK k l).1 (2 ^ k) with h' | h'
  · exact h'
  · exfalso
    have a1 : 2 ^ k * 10 ^ l.length ≤ (dblK k l).1 * 10 ^ l.length := Nat.mul_le_mul_right _ h'
    have a2 : 2 ^ k * valN l < 2 ^ k * 10 ^ l.length := Nat.mul_lt_mul_of_pos_left hl (Nat.pow_pos (by decide))
    omega
theorem dbl16 (l : List Nat) (h : smallD l) : (dblK 16 l).1 = valN l * 65536 / 10 ^ l.length ∧ valN (dblK 16 l).2 = valN l * 65536 % 10 ^ l.length := by
  obtain ⟨h1, h2, h3⟩ := dblK_spec 16 l h
  have h4 := valN_lt _ h2
  rw [h1] at h4
  have hp : 0 < 10 ^ l.length := Nat.pow_pos (by decide)
  have e : valN l * 65536 = 2 ^ 16 * valN l := by rw [Nat.mul_comm]
  rw [e, ← h3]
  constructor
  · rw [Nat.add_comm, Nat.add_mul_div_right _ _ hp, Nat.div_eq_of_lt h4, Nat.zero_add]
  · rw [Nat.add_comm, Nat.add_mul_mod_self_right, Nat.mod_eq_of_lt h4]
theorem valN_dv (l : List UInt8) : valN (l.map dv) = val l := by
  induction l with
  | nil => rfl
  | cons c l ih => rw [List.map_cons, val_cons]; simp only [valN, List.length_map]; rw [ih]
theorem small_dv (l : List UInt8) (h : l.all isDig = true) : smallD (l.map dv) := by
  intro d hd
  obtain ⟨c, hc, rfl⟩ := List.mem_map.1 hd
  rw [List.all_eq_true] at h
  exact (dv_le c (h c hc)).1
/- held against a half -/
theorem valN_zero (l : List Nat) (h : ∀ d ∈ l, d = 0) : valN l = 0 := by
  induction l with
  | nil => rfl
  | cons d l ih => simp only [valN]; rw [h d (by simp), ih (fun x hx => h x (by simp [hx]))]; simp
theorem valN_pos (l : List Nat) (h : ∃ d ∈ l, d ≠ 0) : 0 < valN l := by
  induction l with
  | nil => obtain ⟨d, hd, _⟩ := h; cases hd
  | cons c l ih =>
    simp only [valN]
    by_cases hc : c = 0
    · obtain ⟨d, hd, h0⟩ := h
      rcases List.mem_cons.1 hd with rfl | hd
      · exact absurd hc h0
      · have := ih ⟨d, hd, h0⟩
        omega
    · have : 1 * 10 ^ l.length ≤ c * 10 ^ l.length := Nat.mul_le_mul_right _ (by omega)
      have : 0 < 10 ^ l.length := Nat.pow_pos (by decide)
      omega
def toI (l : List Nat) : List Int := l.map fun (d : Nat) => (d : Int)
theorem restZ_iff (c : Nat) (r : List Nat) : restZ (toI (c :: r)) = true ↔ ∀ d ∈ r, d = 0 := by
  constructor
  · intro h d hd
    obtain ⟨i, hi, rfl⟩ := List.mem_iff_getElem.1 hd
    unfold restZ at h
    rw [List.all_eq_true] at h
    have := h (i + 1) (List.mem_range.2 (by simp [toI]; omega))
    simp [toI, hi] at this
    exact this
  · intro h
    refine restZ_t _ ?_
    intro i h1 h2
    have hi : i - 1 < r.length := by simp [toI] at h2; omega
    have := h r[i - 1] (List.getElem_mem hi)
    obtain ⟨j, rfl⟩ : ∃ j, i = j + 1 := ⟨i - 1, by omega⟩
    simp [toI] at this ⊢
    simp at hi
    simp [hi, this]
theorem hf_spec (l : List Nat) (h : smallD l) : hfV (toI l) = if 2 * valN l < 10 ^ l.length then -1 else if 2 * valN l = 10 ^ l.length then 0 else 1 := by
  cases l with
  | nil => decide
  | cons c r =>
    have hc := h c (by simp)
    have hr := valN_lt r (fun x hx => h x (by simp [hx]))
    have hT : 0 < 10 ^ r.length := Nat.pow_pos (by decide)
    have e0 : (toI (c :: r)).getD 0 0 = (c : Int) := rfl
    have hne : ¬ toI (c :: r) = [] := by simp [toI]
    unfold hfV
    rw [e0]
    have ev : valN (c :: r) = c * 10 ^ r.length + valN r := rfl
    have ep : 10 ^ (c :: r).length = 10 ^ r.length * 10 := by rw [List.length_cons, Nat.pow_succ]
    have hz := restZ_iff c r
    have hv0 := valN_zero r
    have hvp := valN_pos r
    rcases Nat.lt_trichotomy c 5 with hlt | heq | hgt
    · have hm : c * 10 ^ r.length ≤ 4 * 10 ^ r.length := Nat.mul_le_mul_right _ (by omega)
      rw [if_pos (Or.inr (by omega)), if_pos (by omega)]
    · subst heq
      rw [if_neg (by intro h; rcases h with h | h; exact hne h; omega), if_neg (by omega)]
      by_cases hall : ∀ d ∈ r, d = 0
      · have hv1 := hv0 hall
        rw [if_pos (hz.2 hall), if_neg (by omega), if_pos (by omega)]
      · have : ∃ d ∈ r, d ≠ 0 := by
          by_cases hx : ∃ d ∈ r, d ≠ 0
          · exact hx
          · exfalso; apply hall; intro d hd
            by_cases h0 : d = 0
            · exact h0
            · exact absurd ⟨d, hd, h0⟩ hx
        have hp := hvp this
        rw [if_neg (fun h => hall (hz.1 h)), if_neg (by omega), if_neg (by omega)]
    · have hm : 6 * 10 ^ r.length ≤ c * 10 ^ r.length := Nat.mul_le_mul_right _ (by omega)
      rw [if_neg (by intro h; rcases h with h | h; exact hne h; omega), if_pos (by omega), if_neg (by omega), if_neg (by omega)]
end Go.Proofs.YtalmcdbdibpgkaaGreatDoor.D2
/-
  What the reference's bits (chapter 2) answers.
-/
namespace Go.Proofs.YtalmcdbdibpgkaaGreatDoor.D2
set_option maxRecDepth 8000
open Go.RowKit

theorem info_int : (Tryz.prog.info? 3).map (fun i => (i.zero, i.size, i.bytes)) = some (some (.int .i64 0), 1, 8) := by kernel_rfl
def icell (d : Nat) : Value := Value.int .i64 (d : Int)
/- what the call owns: a slice of digits -/
def OwnI (w : World) (B : Nat) (v : Value) (n : Nat) (ys : List Nat) : Prop := w.ownsRow B 3 1 v n (ys.map icell)
theorem OwnI.at {w : World} {B g n cap : Nat} {ys : List Nat} (h : OwnI w B (.slice (some ⟨g, 0, none⟩) n cap) n ys) (i d : Nat) (hi : ys[i]? = some d) : w.cell? ⟨g, i, none⟩ = some (.int .i64 (d : Int)) := by
  have hl : i < ys.length := (List.getElem?_eq_some_iff.1 hi).1
  have := World.ownsRow.cellAt h i (by have := h.1; simp at this; omega)
  rw [this, List.getElem?_map, hi]
  rfl
theorem OwnI.stored {w : World} {B g n cap : Nat} {ys : List Nat} (h : OwnI w B (.slice (some ⟨g, 0, none⟩) n cap) n ys) (j : Nat) (x : Nat) : OwnI (w.setCell ⟨g, j, none⟩ (.int .i64 (x : Int))) B (.slice (some ⟨g, 0, none⟩) n cap) n (ys.set j x) := by
  have := (World.ownsRow.stored h j (icell x)).1
  unfold OwnI
  rw [List.map_set]
  exact this
theorem OwnI.shape {w : World} {B n : Nat} {v : Value} {ys : List Nat} (h : OwnI w B v n ys) (hne : 0 < n) : ∃ g cap, v = .slice (some ⟨g, 0, none⟩) n cap ∧ B ≤ g := by
  obtain ⟨_, ⟨h0, h1⟩ | ⟨g, cap, cur, hv, hb, _⟩⟩ := h
  · omega
  · exact ⟨g, cap, hv, hb⟩
/- the row while it is doubled: j places to go -/
def ist (zs : List Nat) (j : Nat) : List Nat := zs.take j ++ (dbl (zs.drop j)).2
theorem ist_len (zs : List Nat) (j : Nat) (h : j ≤ zs.length) : (ist zs j).length = zs.length := by
  unfold ist
  rw [List.length_append, dbl_len, List.length_take, List.length_drop]
  omega
theorem ist_get (zs : List Nat) (k : Nat) (h : k < zs.length) : (ist zs (k + 1))[k]? = zs[k]? := by
  unfold ist
  rw [List.getElem?_append_left (by simp; omega), List.getElem?_take, if_pos (by omega)]
theorem ist_set (zs : List Nat) (k : Nat) (h : k < zs.length) (x : Nat) (hx : dbl (zs.drop k) = ((dbl (zs.drop k)).1, x :: (dbl (zs.drop (k + 1))).2)) : (ist zs (k + 1)).set k x = ist zs k := by
  have e : (dbl (zs.drop k)).2 = x :: (dbl (zs.drop (k + 1))).2 := by rw [hx]
  unfold ist
  rw [e, List.set_append, if_pos (by simp; omega), List.take_succ_eq_append_getElem h, List.set_append, if_neg (by simp; omega)]
  have : k - (List.take k zs).length = 0 := by simp; omega
  rw [this]
  simp

theorem icell_rfl (d : Nat) : icell d = .int .i64 (d : Int) := rfl

set_option maxHeartbeats 4000000 in
theorem bits_core (s : ByteArray) (w : World) (hs : s.size ≤ 40) (hd : s.data.toList.all isDig = true) (z : List Nat) (hz : s.data.toList.map dv = z) (R : Nat) (ZS : List Nat) (hR : ∀ k, k = 16 → dblK k z = (R, ZS)) :
    Calls Tryz.prog 120 #[.string s] w fun e w' => ∃ v, e = .returned (.tuple #[.int .i64 R, v]) ∧ OwnI w' w.heap.size v s.size ZS ∧ Below w.heap.size w w' := by
  have hs' : (s.size : Int) ≤ 40 := by omega
  have hzl : z.length = s.size := by rw [← hz, List.length_map, size_list]
  have hdig : ∀ k (h : k < s.size), ∃ d : Nat, (s[k].toNat : Int) = 48 + (d : Int) ∧ d ≤ 9 ∧ z.take (k + 1) = z.take k ++ [d] := by
    intro k h
    have hb := List.mem_iff_getElem?.2 ⟨k, get_byte' s k h⟩
    rw [List.all_eq_true] at hd
    have h2 := dv_le _ (hd _ hb)
    refine ⟨dv s[k], h2.2, h2.1, ?_⟩
    rw [← hz, ← List.map_take, ← List.map_take, take_byte s k h, List.map_append]
    rfl
  have hsm : smallD z := by rw [← hz]; exact small_dv _ hd
  have HDIG := hide hdig
  have HZL := hide hzl
  have HSM := hide hsm
  have HR := hide hR
  obtain ⟨i0, hi, hz0, hz1, hz2⟩ := info_parts info_int
  have HI := hide hi
  have HI0 := hide hz0
  have HI1 := hide hz1
  have HI2 := hide hz2
  clear hdig hzl hsm hR hd hz hi hz0 hz1 hz2
  go_enter Tryz.func120, Tryz.ntmps120
  go_wp2_with fail
  go_loopw [4, 5] (fun v vi wr => ∃ k : Nat, vi = .int .i64 k ∧ Hid (k ≤ s.size ∧ OwnI wr w.heap.size v k (z.take k) ∧ Below w.heap.size w wr ∧ (k = 0 → v = .slice none 0 0))) (fun _ vi _ => s.size - (intOf vi).toNat)
  case atStart => exact ⟨0, rfl, hide ⟨by omega, World.ownsRow_nil _ _ _ _, Below.refl _ _, fun _ => rfl⟩⟩
  case round =>
    obtain ⟨k, rfl, HK⟩ := hrel
    obtain ⟨k1, k2, k3, k4⟩ := HK.out
    clear HK
    by_cases hlt : k < s.size
    · have hlt' : (k : Int) < (s.size : Int) := by omega
      obtain ⟨d, d1, d2, d3⟩ := HDIG.out k hlt
      have d4 : (d : Int) ≤ 9 := by omega
      have K2 := hide k2
      have K3 := hide k3
      have D3 := hide d3
      have hsz := k3.size
      clear k2 k3 k4 d3 d2
      go_wp2_with (at_builtin; refine wpList_append_own _ rfl _ _ 41 rfl w.heap.size 3 i0 (.int .i64 0) 1 8 Tryz.underlying41 HI.out HI0.out HI1.out HI2.out rfl (by decide) _ _ _ rfl (K2.out.alloc _) ⟨wr.heap.size, 0, none⟩ 1 1 [.int .i64 (48 + (d : Int) - 48)] rfl rfl ?d1 ?d2 ?d3 ?d4 ?d5 ?_)
      case d1 =>
        intro j u hj
        match j, hj with
        | 0, hj => simp at hj; subst hj; simp [Addr.add]
      case d2 => intro u hu; simp at hu; subst hu; rfl
      case d3 => unfold maxLen; omega
      case d4 => omega
      case d5 => simp; omega
      intro v2 w2 hown2 hgrow2 _
      have HB2 := hide (show Below w.heap.size w w2 from (K3.out.alloc hsz _).grown hgrow2 (by simp; omega) (fun k hk => (K2.out.lt k hk).1))
      have HO2 := hide (show OwnI w2 w.heap.size v2 (k + 1) (z.take (k + 1)) by
        unfold OwnI
        rw [D3.out, List.map_append, show [d].map icell = [Value.int .i64 (48 + (d : Int) - 48)] from congrArg (fun x => [Value.int .i64 x]) (by omega)]
        simpa using hown2)
      clear hown2 hgrow2
      go_wp2
      go_roundw
      case rel => exact ⟨k + 1, by go_num, hide ⟨by omega, HO2.out, HB2.out, fun h => absurd h (by omega)⟩⟩
      case measure => simp [intOf]; omega
    · have hlt' : ¬ (k : Int) < (s.size : Int) := by omega
      obtain rfl : k = s.size := by omega
      rw [List.take_of_length_le (by have := HZL.out; omega)] at k2
      by_cases h0 : s.size = 0
      · rcases (show u4 = .slice none 0 0 from k4 h0) with rfl
        have hz0 : z = [] := List.eq_nil_of_length_eq_zero (by have := HZL.out; omega)
        have hk16 : ∀ k, dblK k z = (0, []) := by
          intro k
          rw [hz0]
          induction k with
          | zero => rfl
          | succ k ih => unfold dblK; rw [ih]; rfl
        have hRZ := (HR.out 16 rfl).symm.trans (hk16 16)
        obtain ⟨rfl, rfl⟩ := Prod.mk.inj hRZ
        have K3 := hide k3
        have HS0 := hide h0
        clear k1 k2 k3 k4 hz0 hk16 hRZ HR HZL HSM HDIG
        go_wp2_with fail
        go_loopw [6, 7] (fun vn vk wr => ∃ k : Nat, vk = .int .i64 k ∧ vn = .int .i64 0 ∧ Hid (k ≤ 16 ∧ Below w.heap.size w wr)) (fun _ vk _ => 16 - (intOf vk).toNat)
        case atStart => exact ⟨0, rfl, rfl, hide ⟨by omega, K3.out⟩⟩
        case round =>
          obtain ⟨k, rfl, rfl, HK⟩ := hrel
          obtain ⟨k1, k2⟩ := HK.out
          clear HK
          have K2 := hide k2
          by_cases hk : k < 16
          · have hk' : (k : Int) ≤ 15 := by omega
            clear k1 k2 hk
            go_wp2_with fail
            go_loopw [8, 9] (fun vc vi wr' => vc = .int .i64 0 ∧ vi = .int .i64 (-1) ∧ Hid (Below w.heap.size w wr')) (fun _ _ _ => 0)
            case atStart => exact ⟨rfl, rfl, K2⟩
            case round =>
              obtain ⟨rfl, rfl, HB⟩ := hrel
              go_wp2
              go_roundw
              case rel => exact ⟨k + 1, by go_num, rfl, hide ⟨by omega, HB.out⟩⟩
              case measure => simp [intOf]; omega
          · have hk' : (16 : Int) ≤ (k : Int) := by omega
            clear k1 k2 hk
            go_wp2
            exact bodyPost_ret (v := .tuple #[.int .i64 0, .slice none 0 0]) (by simp [results, Tryz.results120, go_sem]) rfl ⟨.slice none 0 0, rfl, by rw [HS0.out]; exact World.ownsRow_nil _ _ _ _, K2.out⟩
      · obtain ⟨g, cap, hv, hgB⟩ := k2.shape (by omega)
        subst hv
        have K2 := hide k2
        have K3 := hide k3
        have hk0 := HZL.out
        have HL2 := hide (fun k => (dblK_spec k z HSM.out).1.trans hk0)
        have HS2 := hide (fun k => (dblK_spec k z HSM.out).2.1)
        have HLE := hide (fun k => dblK_le k z HSM.out)
        clear k1 k2 k3 k4 hk0 HDIG
        go_wp2_with fail
        go_loopw [6, 7] (fun vn vk wr => ∃ k n : Nat, vk = .int .i64 k ∧ vn = .int .i64 n ∧ Hid (k ≤ 16 ∧ (dblK k z).1 = n ∧ OwnI wr w.heap.size (.slice (some ⟨g, 0, none⟩) s.size cap) s.size (dblK k z).2 ∧ Below w.heap.size w wr)) (fun _ vk _ => 16 - (intOf vk).toNat)
        case atStart => exact ⟨0, 0, rfl, rfl, hide ⟨by omega, rfl, K2.out, K3.out⟩⟩
        case round =>
          obtain ⟨k, n, rfl, rfl, HK⟩ := hrel
          obtain ⟨k1, k2, k3, k4⟩ := HK.out
          clear HK
          by_cases hk : k < 16
          · have hk' : (k : Int) ≤ 15 := by omega
            have hn : (n : Int) ≤ 65535 := by
              have h1 := HLE.out k
              have h2 : 2 ^ k ≤ 2 ^ 16 := Nat.pow_le_pow_right (by decide) (by omega)
              omega
            obtain ⟨zs, hzs⟩ : ∃ zs, (dblK k z).2 = zs := ⟨_, rfl⟩
            have hlz : zs.length = s.size := by rw [← hzs]; exact HL2.out k
            have hsz : smallD zs := by rw [← hzs]; exact HS2.out k
            have HN1 := hide (show (dblK (k + 1) z).1 = 2 * n + (dbl zs).1 by rw [← k2, ← hzs]; rfl)
            have HN2 := hide (show (dblK (k + 1) z).2 = (dbl zs).2 by rw [← hzs]; rfl)
            have hc1 : ∀ j, (dbl (zs.drop j)).1 ≤ 1 := fun j => dbl_one _ (fun d hd => hsz d (List.mem_of_mem_drop hd))
            have HC1 := hide hc1
            have HSZ := hide hsz
            have HLZ := hide hlz
            rw [hzs] at k3
            have K3' := hide k3
            have K4 := hide k4
            have HD0 := hide (show dbl (zs.drop s.size) = (0, []) by rw [List.drop_eq_nil_of_le (by omega)]; rfl)
            clear k1 k2 k3 k4 hk hzs hlz hsz hc1
            go_wp2_with fail
            go_loopw [8, 9] (fun vc vi wr' => ∃ (j c : Nat) (x : Int), vi = .int .i64 x ∧ vc = .int .i64 c ∧ Hid (x = (j : Int) - 1 ∧ j ≤ s.size ∧ (dbl (zs.drop j)).1 = c ∧ OwnI wr' w.heap.size (.slice (some ⟨g, 0, none⟩) s.size cap) s.size (ist zs j) ∧ Below w.heap.size w wr')) (fun _ vi _ => (intOf vi + 1).toNat)
            case atStart =>
              refine ⟨s.size, 0, _, rfl, rfl, hide ⟨rfl, Nat.le_refl _, by rw [HD0.out], ?_, K4.out⟩⟩
              have : ist zs s.size = zs := by unfold ist; rw [HD0.out, List.take_of_length_le (by have := HLZ.out; omega)]; simp
              rw [this]
              exact K3'.out
            case round =>
              obtain ⟨j, c, x, rfl, rfl, HJ⟩ := hrel
              obtain ⟨j1, j2, j3, j4, j5⟩ := HJ.out
              clear HJ
              have hc : (c : Int) ≤ 1 := by have := HC1.out j; omega
              cases j with
              | zero =>
                obtain rfl : x = -1 := by omega
                rw [List.drop_zero] at j3
                rw [show ist zs 0 = (dbl zs).2 by simp [ist], ← HN2.out] at j4
                have J4 := hide j4
                have J5 := hide j5
                have HN3 := hide (show (dblK (k + 1) z).1 = 2 * n + c by rw [HN1.out, j3])
                clear j1 j2 j3 j4 j5
                go_wp2
                go_roundw
                case rel => exact ⟨k + 1, 2 * n + c, by go_num, by go_num, hide ⟨by omega, HN3.out, J4.out, J5.out⟩⟩
                case measure => simp [intOf]; omega
              | succ i =>
                obtain rfl : x = (i : Int) := by omega
                have hi' : (i : Int) < (s.size : Int) := by omega
                have hiz : i < zs.length := by have := HLZ.out; omega
                have hget := ist_get zs i hiz
                rw [List.getElem?_eq_getElem hiz] at hget
                have hcell := j4.at i _ hget
                have hd9 : zs[i] ≤ 9 := HSZ.out _ (List.getElem_mem hiz)
                have hdrop : zs.drop i = zs[i] :: zs.drop (i + 1) := List.drop_eq_getElem_cons hiz
                have hdb : dbl (zs.drop i) = ((2 * zs[i] + c) / 10, (2 * zs[i] + c) % 10 :: (dbl (zs.drop (i + 1))).2) := by rw [hdrop, dbl_cons, j3]
                generalize zs[i] = d at *
                have hst := ist_set zs i hiz ((2 * d + c) % 10) (by rw [hdb])
                have J4' := j4.stored i ((2 * d + c) % 10)
                rw [hst] at J4'
                have HQM := hide (show 2 * d + c = 10 * ((2 * d + c) / 10) + (2 * d + c) % 10 ∧ (2 * d + c) % 10 < 10 by omega)
                have hdd : (d : Int) ≤ 9 := by omega
                have J6 := hide (show (dbl (zs.drop i)).1 = (2 * d + c) / 10 by rw [hdb])
                have hfz : wr.frozen? ⟨g, i, none⟩ = false := World.ownsRow.frozenAt j4 i
                have q1 : (2 * (d : Int) + (c : Int)) / 10 = (((2 * d + c) / 10 : Nat) : Int) := by omega
                have q2 : (2 * (d : Int) + (c : Int)) % 10 = (((2 * d + c) % 10 : Nat) : Int) := by omega
                have J5 := hide j5
                generalize (2 * d + c) / 10 = Q at *
                generalize (2 * d + c) % 10 = M at *
                have J7 := hide J4'
                clear j1 j2 j3 j4 j5 hget hd9 hdrop hdb hst J4' hiz
                go_wp2
                go_roundw
                case rel => exact ⟨i, Q, _, rfl, by first | rfl | exact congrArg _ q1, hide ⟨by omega, by omega, J6.out, by first | exact J7.out | (rw [q2]; exact J7.out), J5.out.setCell hgB _⟩⟩
                case measure => simp [intOf]; try omega
          · have hk' : (16 : Int) ≤ (k : Int) := by omega
            have hk16 := HR.out k (by omega)
            obtain rfl : n = R := by rw [← k2, hk16]
            rw [hk16] at k3
            have K3' := hide k3
            have K4 := hide k4
            clear k1 k2 k3 k4 hk HR hk16
            go_wp2
            exact bodyPost_ret (v := .tuple #[.int .i64 n, .slice (some ⟨g, 0, none⟩) s.size cap]) (by simp [results, Tryz.results120, go_sem]) rfl ⟨_, rfl, K3'.out, K4.out⟩
end Go.Proofs.YtalmcdbdibpgkaaGreatDoor.D2
/-
  What the reference's Form (chapter 2) answers: where the digits of a number's text begin and end, or that it is none.
-/
namespace Go.Proofs.YtalmcdbdibpgkaaGreatDoor.D2
set_option maxRecDepth 8000
open Go.RowKit

/- the parts of a text as a number -/
def fmAt (l : List UInt8) : Nat := if l.head? = some 45 then 1 else 0
def fmEnd (l : List UInt8) : Nat := fmAt l + dgc (l.drop (fmAt l))
def fmOK (l : List UInt8) : Bool :=
  decide (fmEnd l ≠ fmAt l) && (decide (fmEnd l = l.length) || (decide (l[fmEnd l]? = some 46) && decide (dgc (l.drop (fmEnd l + 1)) ≠ 0) && decide (fmEnd l + 1 + dgc (l.drop (fmEnd l + 1)) = l.length)))
def fmBehind (l : List UInt8) : Nat := if fmEnd l = l.length then fmEnd l else fmEnd l + 1
theorem fmAt_le (l : List UInt8) : fmAt l ≤ l.length := by
  unfold fmAt
  split
  · cases l <;> simp_all
  · omega
theorem fmEnd_le (l : List UInt8) : fmEnd l ≤ l.length := by
  unfold fmEnd
  have h1 := dgc_le (l.drop (fmAt l))
  have h2 := fmAt_le l
  rw [List.length_drop] at h1
  omega
theorem get_byte (s : ByteArray) (k : Nat) (h : k < s.size) : s.data.toList[k]? = some s[k] := by
  rw [List.getElem?_eq_getElem (by simpa using h)]
  rfl

/- the walk, under names: E the end, d2 how many digits behind the point -/
def fmRes (s : ByteArray) (A E d2 : Nat) : Value :=
  if E = A then .tuple #[.int .i64 0, .int .i64 0, .int .i64 0, .bool false]
  else if E = s.size then .tuple #[.int .i64 A, .int .i64 E, .int .i64 E, .bool true]
  else if s.data.toList[E]? = some 46 ∧ d2 ≠ 0 ∧ E + 1 + d2 = s.size then .tuple #[.int .i64 A, .int .i64 E, .int .i64 ((E : Int) + 1), .bool true]
  else .tuple #[.int .i64 0, .int .i64 0, .int .i64 0, .bool false]

set_option maxHeartbeats 1000000 in
theorem form_walk (s : ByteArray) (A E d1 d2 : Nat) (w : World) (hs : s.size ≤ 9223372036854775000) (hE : E = A + d1) (e1 : E ≤ s.size)
    (c1 : ∀ w, Calls Tryz.prog 139 #[.string s, .int .i64 A] w fun e w' => e = .returned (.int .i64 d1) ∧ w' = w)
    (c2 : E < s.size → ∀ w, Calls Tryz.prog 139 #[.string s, .int .i64 ((E : Int) + 1)] w fun e w' => e = .returned (.int .i64 d2) ∧ w' = w)
    (hd2 : E < s.size → E + 1 + d2 ≤ s.size)
    (dA : (A = 0 ∧ s.size = 0) ∨ (∃ h : 0 < s.size, A = 1 ∧ s[0] = 45) ∨ (∃ h : 0 < s.size, A = 0 ∧ s[0] ≠ 45)) :
    Calls Tryz.prog 119 #[.string s] w fun e w' => e = .returned (fmRes s A E d2) ∧ w' = w := by
  have C1 := hide c1
  have C2 := hide c2
  clear c1 c2
  rcases dA with ⟨rfl, h0⟩ | ⟨h0, rfl, hc⟩ | ⟨h0, rfl, hc⟩
  · obtain rfl : E = 0 := by omega
    obtain rfl : d1 = 0 := by omega
    rw [show fmRes s 0 0 d2 = .tuple #[.int .i64 0, .int .i64 0, .int .i64 0, .bool false] by unfold fmRes; rw [if_pos rfl]]
    rw [show ((0 : Nat) : Int) = 0 from rfl] at C1
    have f0 : decide (0 < s.size) = false := decide_eq_false (by omega)
    clear C2 hd2 hE e1 h0
    go_enter Tryz.func119, Tryz.ntmps119
    go_wp2_with (go_at_call 139; refine (C1.out _).mono ?_; rintro e w' ⟨rfl, rfl⟩)
    exact bodyPost_ret (v := .tuple #[.int .i64 0, .int .i64 0, .int .i64 0, .bool false]) (by simp [results, Tryz.results119, go_sem]) rfl ⟨rfl, rfl⟩
  · have f0 : 0 < s.size := h0
    have f1 : ((s[0].toNat : Int) == 45) = true := by rw [hc]; rfl
    rw [show ((1 : Nat) : Int) = 1 from rfl] at C1
    have eE : (1 : Int) + (d1 : Int) = (E : Int) := by omega
    clear hE
    by_cases k1 : E = 1
    · rw [show fmRes s 1 E d2 = .tuple #[.int .i64 0, .int .i64 0, .int .i64 0, .bool false] by unfold fmRes; rw [if_pos k1]]
      have f2 : ((E : Int) == 1) = true := by rw [beq_iff_eq]; omega
      clear k1 C2 hd2 hc
      go_enter Tryz.func119, Tryz.ntmps119
      go_wp2_with (go_at_call 139; refine (C1.out _).mono ?_; rintro e w' ⟨rfl, rfl⟩)
      exact bodyPost_ret (v := .tuple #[.int .i64 0, .int .i64 0, .int .i64 0, .bool false]) (by simp [results, Tryz.results119, go_sem]) rfl ⟨rfl, rfl⟩
    · have f2 : ((E : Int) == 1) = false := by rw [beq_eq_false_iff_ne]; omega
      by_cases k2 : E = s.size
      · rw [show fmRes s 1 E d2 = .tuple #[.int .i64 ((1 : Nat) : Int), .int .i64 E, .int .i64 E, .bool true] by unfold fmRes; rw [if_neg k1, if_pos k2]]
        have f3 : ((E : Int) == (s.size : Int)) = true := by rw [beq_iff_eq]; omega
        clear k1 k2 C2 hd2 hc
        go_enter Tryz.func119, Tryz.ntmps119
        go_wp2_with (go_at_call 139; refine (C1.out _).mono ?_; rintro e w' ⟨rfl, rfl⟩)
        exact bodyPost_ret (v := .tuple #[.int .i64 1, .int .i64 E, .int .i64 E, .bool true]) (by simp [results, Tryz.results119, go_sem]) rfl ⟨rfl, rfl⟩
      · have f3 : ((E : Int) == (s.size : Int)) = false := by rw [beq_eq_false_iff_ne]; omega
        have k3 : E < s.size := by omega
        have C3 := hide (C2.out k3)
        have b2 := hd2 k3
        have gb := get_byte s E k3
        clear C2 hd2
        have no : ¬ (s.data.toList[E]? = some 46 ∧ d2 ≠ 0 ∧ E + 1 + d2 = s.size) → fmRes s 1 E d2 = .tuple #[.int .i64 0, .int .i64 0, .int .i64 0, .bool false] := by
          intro h; unfold fmRes; rw [if_neg k1, if_neg k2, if_neg h]
        have yes : (s.data.toList[E]? = some 46 ∧ d2 ≠ 0 ∧ E + 1 + d2 = s.size) → fmRes s 1 E d2 = .tuple #[.int .i64 ((1 : Nat) : Int), .int .i64 E, .int .i64 ((E : Int) + 1), .bool true] := by
          intro h; unfold fmRes; rw [if_neg k1, if_neg k2, if_pos h]
        rw [gb] at no yes
        by_cases k4 : s[E] = 46
        · have f4 : ((s[E].toNat : Int) != 46) = false := by rw [k4]; rfl
          by_cases k5 : d2 = 0
          · rw [no (by intro h; exact h.2.1 k5)]
            have f5 : ((d2 : Int) == 0) = true := by rw [beq_iff_eq]; omega
            clear k1 k2 k4 k5 no yes gb hc
            go_enter Tryz.func119, Tryz.ntmps119
            go_wp2_with fail
            refine (C1.out _).mono ?_
            rintro e w' ⟨rfl, rfl⟩
            go_wp2_with (go_at_call 139; refine (C3.out _).mono ?_; rintro e w' ⟨rfl, rfl⟩)
            exact bodyPost_ret (v := .tuple #[.int .i64 0, .int .i64 0, .int .i64 0, .bool false]) (by simp [results, Tryz.results119, go_sem]) rfl ⟨rfl, rfl⟩
          · have f5 : ((d2 : Int) == 0) = false := by rw [beq_eq_false_iff_ne]; omega
            by_cases k6 : E + 1 + d2 = s.size
            · rw [yes ⟨by rw [k4], k5, k6⟩]
              have f6 : ((E : Int) + 1 + (d2 : Int) != (s.size : Int)) = false := by simp; omega
              clear k1 k2 k4 k5 k6 no yes gb hc
              go_enter Tryz.func119, Tryz.ntmps119
              go_wp2_with fail
              refine (C1.out _).mono ?_
              rintro e w' ⟨rfl, rfl⟩
              go_wp2_with (go_at_call 139; refine (C3.out _).mono ?_; rintro e w' ⟨rfl, rfl⟩)
              exact bodyPost_ret (v := .tuple #[.int .i64 1, .int .i64 E, .int .i64 ((E : Int) + 1), .bool true]) (by simp [results, Tryz.results119, go_sem]) rfl ⟨rfl, rfl⟩
            · rw [no (by intro h; exact k6 h.2.2)]
              have f6 : ((E : Int) + 1 + (d2 : Int) != (s.size : Int)) = true := by rw [bne_iff_ne]; omega
              clear k1 k2 k4 k5 k6 no yes gb hc
              go_enter Tryz.func119, Tryz.ntmps119
              go_wp2_with fail
              refine (C1.out _).mono ?_
              rintro e w' ⟨rfl, rfl⟩
              go_wp2_with (go_at_call 139; refine (C3.out _).mono ?_; rintro e w' ⟨rfl, rfl⟩)
              exact bodyPost_ret (v := .tuple #[.int .i64 0, .int .i64 0, .int .i64 0, .bool false]) (by simp [results, Tryz.results119, go_sem]) rfl ⟨rfl, rfl⟩
        · have f4 : ((s[E].toNat : Int) != 46) = true := by
            rw [bne_iff_ne]
            intro h
            exact k4 (UInt8.toNat_inj.1 (by have : s[E].toNat = 46 := by omega
                                            rw [this]; rfl))
          rw [no (by intro h; simp at h; exact k4 h.1)]
          clear k1 k2 k4 no yes gb hc
          go_enter Tryz.func119, Tryz.ntmps119
          go_wp2_with fail
          refine (C1.out _).mono ?_
          rintro e w' ⟨rfl, rfl⟩
          go_wp2
          exact bodyPost_ret (v := .tuple #[.int .i64 0, .int .i64 0, .int .i64 0, .bool false]) (by simp [results, Tryz.results119, go_sem]) rfl ⟨rfl, rfl⟩
  · have f0 : 0 < s.size := h0
    have f1 : ((s[0].toNat : Int) == 45) = false := by
      rw [beq_eq_false_iff_ne]
      intro h
      exact hc (UInt8.toNat_inj.1 (by have : s[0].toNat = 45 := by omega
                                      rw [this]; rfl))
    rw [show ((0 : Nat) : Int) = 0 from rfl] at C1
    obtain rfl : E = d1 := by omega
    clear hE
    by_cases k1 : E = 0
    · rw [show fmRes s 0 E d2 = .tuple #[.int .i64 0, .int .i64 0, .int .i64 0, .bool false] by unfold fmRes; rw [if_pos k1]]
      have f2 : ((E : Int) == 0) = true := by rw [beq_iff_eq]; omega
      clear k1 C2 hd2 hc
      go_enter Tryz.func119, Tryz.ntmps119
      go_wp2_with (go_at_call 139; refine (C1.out _).mono ?_; rintro e w' ⟨rfl, rfl⟩)
      exact bodyPost_ret (v := .tuple #[.int .i64 0, .int .i64 0, .int .i64 0, .bool false]) (by simp [results, Tryz.results119, go_sem]) rfl ⟨rfl, rfl⟩
    · have f2 : ((E : Int) == 0) = false := by rw [beq_eq_false_iff_ne]; omega
      by_cases k2 : E = s.size
      · rw [show fmRes s 0 E d2 = .tuple #[.int .i64 ((0 : Nat) : Int), .int .i64 E, .int .i64 E, .bool true] by unfold fmRes; rw [if_neg k1, if_pos k2]]
        have f3 : ((E : Int) == (s.size : Int)) = true := by rw [beq_iff_eq]; omega
        clear k1 k2 C2 hd2 hc
        go_enter Tryz.func119, Tryz.ntmps119
        go_wp2_with (go_at_call 139; refine (C1.out _).mono ?_; rintro e w' ⟨rfl, rfl⟩)
        exact bodyPost_ret (v := .tuple #[.int .i64 0, .int .i64 E, .int .i64 E, .bool true]) (by simp [results, Tryz.results119, go_sem]) rfl ⟨rfl, rfl⟩
      · have f3 : ((E : Int) == (s.size : Int)) = false := by rw [beq_eq_false_iff_ne]; omega
        have k3 : E < s.size := by omega
        have C3 := hide (C2.out k3)
        have b2 := hd2 k3
        have gb := get_byte s E k3
        clear C2 hd2
        have no : ¬ (s.data.toList[E]? = some 46 ∧ d2 ≠ 0 ∧ E + 1 + d2 = s.size) → fmRes s 0 E d2 = .tuple #[.int .i64 0, .int .i64 0, .int .i64 0, .bool false] := by
          intro h; unfold fmRes; rw [if_neg k1, if_neg k2, if_neg h]
        have yes : (s.data.toList[E]? = some 46 ∧ d2 ≠ 0 ∧ E + 1 + d2 = s.size) → fmRes s 0 E d2 = .tuple #[.int .i64 ((0 : Nat) : Int), .int .i64 E, .int .i64 ((E : Int) + 1), .bool true] := by
          intro h; unfold fmRes; rw [if_neg k1, if_neg k2, if_pos h]
        rw [gb] at no yes
        by_cases k4 : s[E] = 46
        · have f4 : ((s[E].toNat : Int) != 46) = false := by rw [k4]; rfl
          by_cases k5 : d2 = 0
          · rw [no (by intro h; exact h.2.1 k5)]
            have f5 : ((d2 : Int) == 0) = true := by rw [beq_iff_eq]; omega
            clear k1 k2 k4 k5 no yes gb hc
            go_enter Tryz.func119, Tryz.ntmps119
            go_wp2_with fail
            refine (C1.out _).mono ?_
            rintro e w' ⟨rfl, rfl⟩
            go_wp2_with (go_at_call 139; refine (C3.out _).mono ?_; rintro e w' ⟨rfl, rfl⟩)
            exact bodyPost_ret (v := .tuple #[.int .i64 0, .int .i64 0, .int .i64 0, .bool false]) (by simp [results, Tryz.results119, go_sem]) rfl ⟨rfl, rfl⟩
          · have f5 : ((d2 : Int) == 0) = false := by rw [beq_eq_false_iff_ne]; omega
            by_cases k6 : E + 1 + d2 = s.size
            · rw [yes ⟨by rw [k4], k5, k6⟩]
              have f6 : ((E : Int) + 1 + (d2 : Int) != (s.size : Int)) = false := by simp; omega
              clear k1 k2 k4 k5 k6 no yes gb hc
              go_enter Tryz.func119, Tryz.ntmps119
              go_wp2_with fail
              refine (C1.out _).mono ?_
              rintro e w' ⟨rfl, rfl⟩
              go_wp2_with (go_at_call 139; refine (C3.out _).mono ?_; rintro e w' ⟨rfl, rfl⟩)
              exact bodyPost_ret (v := .tuple #[.int .i64 0, .int .i64 E, .int .i64 ((E : Int) + 1), .bool true]) (by simp [results, Tryz.results119, go_sem]) rfl ⟨rfl, rfl⟩
            · rw [no (by intro h; exact k6 h.2.2)]
              have f6 : ((E : Int) + 1 + (d2 : Int) != (s.size : Int)) = true := by rw [bne_iff_ne]; omega
              clear k1 k2 k4 k5 k6 no yes gb hc
              go_enter Tryz.func119, Tryz.ntmps119
              go_wp2_with fail
              refine (C1.out _).mono ?_
              rintro e w' ⟨rfl, rfl⟩
              go_wp2_with (go_at_call 139; refine (C3.out _).mono ?_; rintro e w' ⟨rfl, rfl⟩)
              exact bodyPost_ret (v := .tuple #[.int .i64 0, .int .i64 0, .int .i64 0, .bool false]) (by simp [results, Tryz.results119, go_sem]) rfl ⟨rfl, rfl⟩
        · have f4 : ((s[E].toNat : Int) != 46) = true := by
            rw [bne_iff_ne]
            intro h
            exact k4 (UInt8.toNat_inj.1 (by have : s[E].toNat = 46 := by omega
                                            rw [this]; rfl))
          rw [no (by intro h; simp at h; exact k4 h.1)]
          clear k1 k2 k4 no yes gb hc
          go_enter Tryz.func119, Tryz.ntmps119
          go_wp2_with fail
          refine (C1.out _).mono ?_
          rintro e w' ⟨rfl, rfl⟩
          go_wp2
          exact bodyPost_ret (v := .tuple #[.int .i64 0, .int .i64 0, .int .i64 0, .bool false]) (by simp [results, Tryz.results119, go_sem]) rfl ⟨rfl, rfl⟩

theorem rform_any (s : ByteArray) (w : World) (hs : s.size ≤ 9223372036854775000) :
    Calls Tryz.prog 119 #[.string s] w fun e w' => e = .returned (if fmOK s.data.toList then .tuple #[.int .i64 (fmAt s.data.toList), .int .i64 (fmEnd s.data.toList), .int .i64 (fmBehind s.data.toList), .bool true] else .tuple #[.int .i64 0, .int .i64 0, .int .i64 0, .bool false]) ∧ w' = w := by
  have hlen := size_list s
  have a1 := fmAt_le s.data.toList
  have e1 := fmEnd_le s.data.toList
  have dA : (fmAt s.data.toList = 0 ∧ s.size = 0) ∨ (∃ h : 0 < s.size, fmAt s.data.toList = 1 ∧ s[0] = 45) ∨ (∃ h : 0 < s.size, fmAt s.data.toList = 0 ∧ s[0] ≠ 45) := by
    unfold fmAt
    by_cases h : 0 < s.size
    · have := get_byte s 0 h
      rw [List.head?_eq_getElem?, this]
      by_cases hc : s[0] = 45
      · exact Or.inr (Or.inl ⟨h, by rw [hc]; simp, hc⟩)
      · exact Or.inr (Or.inr ⟨h, by simp [hc], hc⟩)
    · have : s.data.toList = [] := List.eq_nil_of_length_eq_zero (by omega)
      exact Or.inl ⟨by rw [this]; simp, by omega⟩
  have hd2 : fmEnd s.data.toList < s.size → fmEnd s.data.toList + 1 + dgc (s.data.toList.drop (fmEnd s.data.toList + 1)) ≤ s.size := by
    intro h
    have := dgc_le (s.data.toList.drop (fmEnd s.data.toList + 1))
    rw [List.length_drop, hlen] at this
    omega
  have c2 : fmEnd s.data.toList < s.size → ∀ w, Calls Tryz.prog 139 #[.string s, .int .i64 ((fmEnd s.data.toList : Int) + 1)] w fun e w' => e = .returned (.int .i64 (dgc (s.data.toList.drop (fmEnd s.data.toList + 1)))) ∧ w' = w := by
    intro h w
    have := rdigits_any s (fmEnd s.data.toList + 1) w (by omega) (by omega)
    rwa [show ((fmEnd s.data.toList + 1 : Nat) : Int) = (fmEnd s.data.toList : Int) + 1 by omega] at this
  refine (form_walk s (fmAt s.data.toList) (fmEnd s.data.toList) _ _ w hs rfl (by omega) (fun w => rdigits_any s _ w (by omega) (by omega)) c2 hd2 dA).mono ?_
  rintro e w' ⟨rfl, hw⟩
  refine ⟨congrArg Ending.returned ?_, hw⟩
  unfold fmRes fmOK fmBehind
  rw [hlen]
  generalize fmEnd s.data.toList = E
  generalize fmAt s.data.toList = A
  generalize dgc (s.data.toList.drop (E + 1)) = d2
  by_cases k1 : E = A
  · simp [k1]
  · by_cases k2 : E = s.size
    · subst k2
      simp [k1]
    · by_cases k3 : s.data.toList[E]? = some 46 ∧ d2 ≠ 0 ∧ E + 1 + d2 = s.size
      · rw [if_neg k1, if_neg k2, if_pos k3, if_neg k2, if_pos]
        · rfl
        · simp only [Bool.and_eq_true, Bool.or_eq_true, decide_eq_true_eq]
          exact ⟨k1, Or.inr ⟨⟨k3.1, k3.2.1⟩, k3.2.2⟩⟩
      · rw [if_neg k1, if_neg k2, if_neg k3, if_neg]
        intro h
        simp only [Bool.and_eq_true, Bool.or_eq_true, decide_eq_true_eq] at h
        rcases h.2 with h' | h'
        · exact k2 h'
        · exact k3 ⟨h'.1.1, h'.1.2, h'.2⟩
end Go.Proofs.YtalmcdbdibpgkaaGreatDoor.D2
/-
  What the reference's Near (chapter 2) answers: the walk.
-/
namespace Go.Proofs.YtalmcdbdibpgkaaGreatDoor.D2
set_option maxRecDepth 8000
open Go.RowKit

theorem OwnI.lst {w : World} {B n : Nat} {v : Value} {ys : List Nat} (h : OwnI w B v n ys) : ∃ a cap, v = .slice a n cap ∧ Lst w a (toI ys) ∧ (toI ys).length = n := by
  have hl : ys.length = n := by have := h.1; simp at this; omega
  have ht : (toI ys).length = n := by simp [toI, hl]
  have h' := h
  obtain ⟨_, ⟨h0, h1⟩ | ⟨g, cap, cur, hv, hb, _⟩⟩ := h'
  · refine ⟨none, 0, ?_, Or.inl ?_, ht⟩
    · rw [h0]; congr 1; omega
    · have : ys = [] := List.eq_nil_of_length_eq_zero (by omega)
      rw [this]; rfl
  · subst hv
    refine ⟨some ⟨g, 0, none⟩, cap, rfl, Or.inr ⟨g, 0, rfl, (World.ownsRow.lt h g rfl).2, fun i hi => ?_⟩, ht⟩
    have hi' : i < ys.length := by omega
    have := h.at i ys[i] (List.getElem?_eq_getElem hi')
    rw [Nat.zero_add, this]
    simp [toI, hi']

theorem rnear_long (s : ByteArray) (w : World) (h : (40 : Int) < (s.size : Int)) :
    Calls Tryz.prog 100 #[.string s] w fun e w' => e = .returned (.tuple #[.int .i64 0, .int .i64 2]) ∧ w' = w := by
  go_enter Tryz.func100, Tryz.ntmps100
  go_wp2
  go_ret2
  exact ⟨rfl, rfl⟩
theorem rnear_bad (s : ByteArray) (w : World) (h : ¬ (40 : Int) < (s.size : Int)) (cF : Calls Tryz.prog 119 #[.string s] w fun e w' => e = .returned (.tuple #[.int .i64 0, .int .i64 0, .int .i64 0, .bool false]) ∧ w' = w) :
    Calls Tryz.prog 100 #[.string s] w fun e w' => e = .returned (.tuple #[.int .i64 0, .int .i64 20]) ∧ w' = w := by
  have CF := hide cF
  clear cF
  go_enter Tryz.func100, Tryz.ntmps100
  go_wp2_with (go_at_call 119; refine CF.out.mono ?_; rintro e w' ⟨rfl, rfl⟩)
  go_ret2
  exact ⟨rfl, rfl⟩

set_option maxHeartbeats 2000000 in
theorem rnear_core (s t : ByteArray) (w : World) (h : (s.size : Int) ≤ 40) (h0 : 0 < s.size) (ng : Bool) (hng : ((s[0].toNat : Int) == 45) = ng) (A E Bh W n : Nat) (P : Nat → Nat) (ZS : List Nat) (H : Int)
    (hAE : A ≤ E) (hE : E ≤ s.size) (hB : (Bh : Int) ≤ (s.size : Int)) (ht : s.extract Bh s.size = t) (hn : (n : Int) ≤ 65535)
    (hP0 : P A = 0) (hPE : P E = W) (hPs : ∀ k, A ≤ k → (hk : k < E) → ∃ d : Nat, ∃ hk' : k < s.size, (s[k].toNat : Int) = 48 + (d : Int) ∧ d ≤ 9 ∧ P (k + 1) = 10 * P k + d) (hPm : ∀ k, A ≤ k → k ≤ E → P k ≤ W)
    (cF : Calls Tryz.prog 119 #[.string s] w fun e w' => e = .returned (.tuple #[.int .i64 A, .int .i64 E, .int .i64 Bh, .bool true]) ∧ w' = w)
    (cB : ∀ w, Calls Tryz.prog 120 #[.string t] w fun e w' => ∃ v, e = .returned (.tuple #[.int .i64 n, v]) ∧ OwnI w' w.heap.size v t.size ZS ∧ Below w.heap.size w w')
    (hts : t.size ≤ 40) (hH : hfV (toI ZS) = H) (hHr : H = -1 ∨ H = 0 ∨ H = 1) (V : Value)
    (X : Int) (hX : X = if ng then -((W : Int) * 65536 + (n : Int) + (if H = 1 then 1 else 0)) else (W : Int) * 65536 + (n : Int) + (if 0 ≤ H then 1 else 0))
    (hV : V = if inB X then .tuple #[.int .i64 X, .int .i64 0] else .tuple #[.int .i64 0, .int .i64 3]) :
    Calls Tryz.prog 100 #[.string s] w fun e w' => e = .returned V ∧ Below w.heap.size w w' := by
  have CF := hide cF
  have CB := hide cB
  have HP0 := hide hP0
  have HPE := hide hPE
  have HPS := hide hPs
  have HPM := hide hPm
  have HAE := hide hAE
  have HE := hide hE
  have HX := hide hX
  have HH := hide hH
  have HT := hide hts
  have HV := hide hV
  clear cF cB hP0 hPE hPs hPm hX hH hts hAE hE hV
  have h40 : ¬ (40 : Int) < (s.size : Int) := by omega
  go_enter Tryz.func100, Tryz.ntmps100
  go_wp2_with (go_at_call 119; refine CF.out.mono ?_; rintro e w' ⟨rfl, rfl⟩)
  go_loop [8, 9] (fun vw vi => ∃ k p : Nat, vi = .int .i64 k ∧ vw = .int .i64 p ∧ Hid (A ≤ k ∧ k ≤ E ∧ P k = p ∧ p ≤ 1073741824)) (fun _ vi => E - (intOf vi).toNat)
  case atStart => exact ⟨A, 0, rfl, rfl, hide ⟨Nat.le_refl _, HAE.out, HP0.out, by omega⟩⟩
  case round =>
    obtain ⟨k, p, rfl, rfl, HK⟩ := hrel
    obtain ⟨k1, k2, k3, k4⟩ := HK.out
    clear HK
    have hp : (p : Int) ≤ 1073741824 := by omega
    by_cases hlt : k < E
    · have hlt' : (k : Int) < (E : Int) := by omega
      obtain ⟨d, hk, d1, d2, d3⟩ := HPS.out k k1 hlt
      have hk' : (k : Int) < (s.size : Int) := by omega
      have d4 : (d : Int) ≤ 9 := by omega
      have hm := HPM.out (k + 1) (by omega) (by omega)
      rw [d3, k3] at hm
      have HD3 := hide (show P (k + 1) = p * 10 + d by rw [d3, k3]; omega)
      have HK1 := hide (show A ≤ k + 1 ∧ k + 1 ≤ E from ⟨by omega, by omega⟩)
      by_cases h30 : 1073741824 < p * 10 + d
      · have g1 : decide ((1073741824 : Int) < (p : Int) * 10 + (d : Int)) = true := by simp; omega
        have hin : inB X = false := by
          have hx := HX.out
          apply inB_f
          rw [hx]
          cases ng
          · simp only [Bool.false_eq_true, if_false]
            split <;> omega
          · simp only [if_true]
            split <;> omega
        obtain rfl : V = .tuple #[.int .i64 0, .int .i64 3] := by rw [HV.out, hin]; rfl
        have g2 : (1073741824 : Int) < (p : Int) * 10 + (d : Int) := by omega
        clear k1 k2 k3 k4 d2 d3 hm hin h30 HV
        go_wp2
        go_ret2
        exact ⟨rfl, Below.refl _ _⟩
      · have g1 : (p : Int) * 10 + (d : Int) ≤ 1073741824 := by omega
        have HL := hide (show p * 10 + d ≤ 1073741824 by omega)
        clear k1 k2 k3 k4 d2 d3 hm h30
        go_wp2
        go_round
        case rel => exact ⟨k + 1, p * 10 + d, by go_num, by go_num, hide ⟨HK1.out.1, HK1.out.2, HD3.out, HL.out⟩⟩
        case measure => simp [intOf]; omega
    · have hlt' : ¬ (k : Int) < (E : Int) := by omega
      obtain rfl : k = E := by omega
      obtain rfl : p = W := by rw [← k3, HPE.out]
      have hx := HX.out
      have hv := HV.out
      have HH2 := HH.out
      clear k1 k2 k3 k4 HX HV HPS HPM HPE HP0
      rcases hHr with rfl | rfl | rfl
      all_goals
        cases ng
        all_goals
          simp at hx
          cases hi : inB X
          all_goals
            rw [hi] at hv
            simp only [if_true, Bool.false_eq_true, if_false] at hv
            subst hv
            rw [hx] at hi
            first | subst hx | skip
            go_wp2_with (first | (go_at_call 120; refine (CB.out _).mono ?_; rintro e w1 ⟨v, rfl, hown, hb1⟩; obtain ⟨a, cap, rfl, hL, hlen⟩ := hown.lst) | (go_at_call 121; refine (half_any _ _ _ _ _ hlen (by have := HT.out; omega) hL).mono ?_; rintro e w2 ⟨rfl, hw2⟩; rw [hw2, HH2]; clear hw2) | (go_at_call 67; refine (rin_any _ _).mono ?_; rintro e w2 ⟨rfl, hw2⟩; rw [hw2]; clear hw2))
            go_ret2
            exact ⟨rfl, hb1⟩
end Go.Proofs.YtalmcdbdibpgkaaGreatDoor.D2
/-
  What the reference's Near (chapter 2) answers of any text.
-/
namespace Go.Proofs.YtalmcdbdibpgkaaGreatDoor.D2
set_option maxRecDepth 8000
open Go.RowKit Go.Lib

theorem dgc_all (l : List UInt8) : (l.take (dgc l)).all isDig = true := by
  induction l with
  | nil => rfl
  | cons c l ih =>
    unfold dgc
    by_cases h : isDig c = true
    · rw [if_pos h, Nat.add_comm, List.take_succ_cons, List.all_cons, h, ih]; rfl
    · rw [if_neg h]; rfl
theorem dgc_next (l : List UInt8) (c : UInt8) (r : List UInt8) (h : l.drop (dgc l) = c :: r) : isDig c = false := by
  induction l with
  | nil => simp [dgc] at h
  | cons a l ih =>
    unfold dgc at h
    by_cases ha : isDig a = true
    · rw [if_pos ha, Nat.add_comm, List.drop_succ_cons] at h
      exact ih h
    · rw [if_neg ha, List.drop_zero] at h
      injection h with h1 h2
      rw [← h1]
      simpa using ha
theorem dgc_full (l : List UInt8) (h : l.all isDig = true) : dgc l = l.length := by
  induction l with
  | nil => rfl
  | cons c l ih =>
    simp only [List.all_cons, Bool.and_eq_true] at h
    unfold dgc
    rw [if_pos h.1, ih h.2, List.length_cons, Nat.add_comm]
theorem digs_dgc (l : List UInt8) : digs l = (decide (dgc l ≠ 0) && decide (dgc l = l.length)) := by
  unfold digs
  by_cases h : l.all isDig = true
  · have hf := dgc_full l h
    rw [h, hf]
    cases l <;> simp
  · have : dgc l ≠ l.length := by
      intro e
      have := dgc_all l
      rw [e, List.take_length] at this
      exact h this
    rw [decide_eq_false this]
    simp [h]
theorem neg_at (l : List UInt8) : fmAt l = (if negP l then 1 else 0) ∧ l.drop (fmAt l) = numP l := by
  cases l with
  | nil => exact ⟨rfl, rfl⟩
  | cons c r =>
    by_cases h : c = 45
    · subst h
      have h1 : negP (45 :: r) = true := by simp [negP, hasPrefix, List.isPrefixOf]
      have h2 : fmAt (45 :: r) = 1 := by simp [fmAt]
      refine ⟨by rw [h1, h2]; rfl, ?_⟩
      rw [h2]
      unfold numP trimPrefix
      rw [show hasPrefix (45 :: r) [45] = true from h1]
      rfl
    · have h1 : negP (c :: r) = false := by simp [negP, hasPrefix, List.isPrefixOf, Ne.symm h]
      have h2 : fmAt (c :: r) = 0 := by simp [fmAt, h]
      refine ⟨by rw [h1, h2]; rfl, ?_⟩
      rw [h2]
      unfold numP trimPrefix
      rw [show hasPrefix (c :: r) [45] = false from h1]
      rfl
theorem form_ok (l : List UInt8) : fmOK l = okP l ∧ (okP l = true → (l.take (fmEnd l)).drop (fmAt l) = whP l ∧ l.drop (fmBehind l) = frP l) := by
  obtain ⟨hA, hn⟩ := neg_at l
  have hAle := fmAt_le l
  have hE : fmEnd l = fmAt l + dgc (numP l) := by unfold fmEnd; rw [hn]
  have hnl : (numP l).length = l.length - fmAt l := by rw [← hn, List.length_drop]
  have htake : (l.take (fmEnd l)).drop (fmAt l) = (numP l).take (dgc (numP l)) := by
    rw [← hn, List.drop_take]
    congr 1
    rw [hE, hn]
    omega
  have hdropE : ∀ m, l.drop (fmEnd l + m) = (numP l).drop (dgc (numP l) + m) := by
    intro m
    rw [← hn, List.drop_drop, hE, hn]
    congr 1
    omega
  have hall := dgc_all (numP l)
  have hdle := dgc_le (numP l)
  generalize hd : dgc (numP l) = d at *
  have hsplit : numP l = (numP l).take d ++ (numP l).drop d := (List.take_append_drop d _).symm
  cases hr : (numP l).drop d with
  | nil =>
    have hdl : d = (numP l).length := by
      have := congrArg List.length hr
      rw [List.length_drop] at this
      simp at this
      omega
    have hfull : (numP l).all isDig = true := by rw [hdl, List.take_length] at hall; exact hall
    have hcut := cut_dig (numP l) hfull
    have hEl : fmEnd l = l.length := by omega
    have hwh : whP l = numP l := by unfold whP; rw [hcut]
    have hfr : frP l = [] := by unfold frP; rw [hcut]
    have hpt : ptP l = false := by unfold ptP; rw [hcut]
    constructor
    · unfold fmOK okP
      rw [hwh, hpt, decide_eq_true hEl, digs_dgc, hd, decide_eq_true hdl]
      simp [hE]
    · intro _
      refine ⟨by rw [htake, hdl, List.take_length, hwh], ?_⟩
      rw [hfr]
      unfold fmBehind
      rw [if_pos hEl, hEl, List.drop_length]
  | cons c r =>
    have hnd := dgc_next (numP l) c r (by rw [hd]; exact hr)
    have hlt : d < (numP l).length := by
      have := congrArg List.length hr
      rw [List.length_drop] at this
      simp at this
      omega
    have hEl : ¬ fmEnd l = l.length := by omega
    have hget : l[fmEnd l]? = some c := by
      have h0 := hdropE 0
      rw [Nat.add_zero, Nat.add_zero, hr] at h0
      rw [← List.head?_drop, h0]
      rfl
    have hrest : l.drop (fmEnd l + 1) = r := by
      rw [hdropE 1, ← List.drop_drop, hr]
      rfl
    by_cases hc : c = 46
    · subst hc
      have hcut : cut (numP l) [46] = ((numP l).take d, r, true) := by
        have := cut_point ((numP l).take d) r hall
        rw [← hr, ← hsplit] at this
        exact this
      have hwh : whP l = (numP l).take d := by unfold whP; rw [hcut]
      have hfr : frP l = r := by unfold frP; rw [hcut]
      have hpt : ptP l = true := by unfold ptP; rw [hcut]
      have hlr : l.length = fmEnd l + 1 + r.length := by
        have := congrArg List.length hrest
        rw [List.length_drop] at this
        omega
      have hdw : digs ((numP l).take d) = decide (d ≠ 0) := by
        rw [digs_dgc, dgc_full _ hall, List.length_take, Nat.min_eq_left (by omega)]
        simp
      constructor
      · unfold fmOK okP
        rw [hwh, hfr, hpt, hget, hrest, decide_eq_false hEl, hdw, digs_dgc r, hlr]
        have e1 : decide (fmEnd l ≠ fmAt l) = decide (d ≠ 0) := decide_eq_decide.2 (by omega)
        have e2 : decide (fmEnd l + 1 + dgc r = fmEnd l + 1 + r.length) = decide (dgc r = r.length) := decide_eq_decide.2 (by omega)
        rw [e1, e2]
        simp
      · intro _
        refine ⟨by rw [htake, hwh], ?_⟩
        unfold fmBehind
        rw [if_neg hEl, hrest, hfr]
    · have hok : okP l = false := by
        unfold okP
        have : digs (whP l) = false := by
          unfold digs
          rw [Bool.and_eq_false_iff]
          refine Or.inl ?_
          have hmem : c ∈ whP l := by
            unfold whP cut
            rcases index_spec (numP l) [46] with ⟨hi, _⟩ | ⟨i, hi, hile, hocc, _⟩
            · rw [hi, if_neg (by omega), hsplit, hr]
              simp
            · rw [hi, if_pos (by omega)]
              have hi46 : ∃ r', (numP l).drop i = 46 :: r' := by
                unfold occAt at hocc
                cases hdi : (numP l).drop i with
                | nil => rw [hdi] at hocc; simp at hocc
                | cons x y =>
                  rw [hdi] at hocc
                  simp [List.isPrefixOf] at hocc
                  exact ⟨y, by rw [hocc]⟩
              obtain ⟨r', hr'⟩ := hi46
              have hdi : d < i := by
                rcases Nat.lt_trichotomy i d with h | h | h
                · exfalso
                  have hx : (46 : UInt8) ∈ (numP l).take d := by
                    rw [List.mem_take_iff_getElem]
                    have hg : (numP l)[i]? = some 46 := by rw [← List.head?_drop, hr']; rfl
                    obtain ⟨hl', hg'⟩ := List.getElem?_eq_some_iff.1 hg
                    exact ⟨i, by omega, hg'⟩
                  rw [List.all_eq_true] at hall
                  exact absurd (hall 46 hx) (by decide)
                · exfalso
                  subst h
                  rw [hr] at hr'
                  injection hr' with h1 _
                  exact hc h1
                · exact h
              have hg : (numP l)[d]? = some c := by rw [← List.head?_drop, hr]; rfl
              obtain ⟨hl', hg'⟩ := List.getElem?_eq_some_iff.1 hg
              simp only [Int.toNat_natCast]
              rw [List.mem_take_iff_getElem]
              exact ⟨d, by omega, hg'⟩
          rw [List.all_eq_false]
          exact ⟨c, hmem, by rw [hnd]; simp⟩
        rw [this]
        rfl
      constructor
      · unfold fmOK
        rw [hok, hget, decide_eq_false hEl]
        simp [hc]
      · intro h
        rw [hok] at h
        cases h
end Go.Proofs.YtalmcdbdibpgkaaGreatDoor.D2
/-
  What the reference's Near and Parse (chapter 2) answer of any text.
-/
namespace Go.Proofs.YtalmcdbdibpgkaaGreatDoor.D2
set_option maxRecDepth 8000
open Go.RowKit Go.Lib

theorem bits_any (l : List UInt8) (w : World) (hs : l.length ≤ 40) (hd : l.all isDig = true) :
    Calls Tryz.prog 120 #[.string ⟨l.toArray⟩] w fun e w' => ∃ v, e = .returned (.tuple #[.int .i64 ((dblK 16 (l.map dv)).1 : Int), v]) ∧ OwnI w' w.heap.size v (⟨l.toArray⟩ : ByteArray).size (dblK 16 (l.map dv)).2 ∧ Below w.heap.size w w' := by
  refine bits_core ⟨l.toArray⟩ w (by rw [size_mk]; exact hs) hd (l.map dv) rfl _ _ ?_
  intro k hk
  rw [hk]
theorem up_eq (ng : Bool) (l : List UInt8) (hd : l.all isDig = true) :
    ∀ H, hfV (toI (dblK 16 (l.map dv)).2) = H → (H = -1 ∨ H = 0 ∨ H = 1) ∧ ((nUp ng l : Nat) : Int) = ((dblK 16 (l.map dv)).1 : Int) + (if ng then (if H = 1 then 1 else 0) else (if 0 ≤ H then 1 else 0)) := by
  intro H hH
  have hsm := small_dv l hd
  obtain ⟨e1, e2⟩ := dbl16 _ hsm
  obtain ⟨g1, g2, _⟩ := dblK_spec 16 _ hsm
  rw [hf_spec _ g2, e2, g1] at hH
  rw [e1]
  rw [valN_dv, List.length_map] at *
  unfold nUp
  have hp : 0 < 10 ^ l.length := Nat.pow_pos (by decide)
  generalize val l * 65536 / 10 ^ l.length = q at *
  generalize val l * 65536 % 10 ^ l.length = r at *
  generalize 10 ^ l.length = T at *
  rcases Nat.lt_trichotomy (2 * r) T with h | h | h
  · rw [if_pos h] at hH
    subst hH
    refine ⟨Or.inl rfl, ?_⟩
    rw [if_neg (by omega)]
    cases ng <;> simp
  · rw [if_neg (by omega), if_pos h] at hH
    subst hH
    refine ⟨Or.inr (Or.inl rfl), ?_⟩
    cases ng
    · rw [if_pos (Or.inr ⟨rfl, h⟩)]; simp
    · rw [if_neg (by simp; omega)]; simp
  · rw [if_neg (by omega), if_neg (by omega)] at hH
    subst hH
    refine ⟨Or.inr (Or.inr rfl), ?_⟩
    rw [if_pos (Or.inl h)]
    cases ng <;> simp
theorem rnear_any (s : ByteArray) (w : World) :
    Calls Tryz.prog 100 #[.string s] w fun e w' => e = .returned (.tuple #[.int .i64 (nearP s.data.toList).1, .int .i64 (nearP s.data.toList).2]) ∧ Below w.heap.size w w' := by
  have hl := size_list s
  unfold nearP
  rw [hl]
  by_cases h40 : 40 < s.size
  · rw [if_pos h40]
    refine (rnear_long s w (by omega)).mono ?_
    rintro e w' ⟨rfl, rfl⟩
    exact ⟨rfl, Below.refl _ _⟩
  rw [if_neg h40]
  have cF := rform_any s w (by omega)
  obtain ⟨f1, f2⟩ := form_ok s.data.toList
  rw [f1] at cF
  cases hok : okP s.data.toList
  · rw [hok, if_neg (by simp)] at cF
    rw [if_pos rfl]
    refine (rnear_bad s w (by omega) cF).mono ?_
    rintro e w' ⟨rfl, rfl⟩
    exact ⟨rfl, Below.refl _ _⟩
  rw [hok, if_pos rfl] at cF
  rw [if_neg (by simp)]
  obtain ⟨hwh, hfr⟩ := f2 hok
  have hA := fmAt_le s.data.toList
  have hEl := fmEnd_le s.data.toList
  have hAE : fmAt s.data.toList ≤ fmEnd s.data.toList := by unfold fmEnd; omega
  have hwd : digs (whP s.data.toList) = true := by
    have := hok
    unfold okP at this
    simp only [Bool.and_eq_true] at this
    exact this.1
  have hfd := frP_all _ hok
  have hwne : whP s.data.toList ≠ [] := by
    intro e
    rw [e] at hwd
    exact absurd hwd (by decide)
  have hB : fmBehind s.data.toList ≤ s.size := by
    unfold fmBehind
    rw [hl]
    split
    · omega
    · omega
  have hpos : 0 < s.size := by
    rcases Nat.eq_zero_or_pos s.size with h | h
    · exfalso
      apply hwne
      rw [← hwh, List.eq_nil_of_length_eq_zero (by omega : s.data.toList.length = 0)]
      simp
    · exact h
  have hng : ((s[0].toNat : Int) == 45) = negP s.data.toList := by
    have h0 := drop_at s 0 hpos
    rw [List.drop_zero] at h0
    unfold negP hasPrefix
    rw [h0]
    by_cases h45 : s[0] = 45
    · rw [h45]; rfl
    · have e : ((s[0].toNat : Int) == 45) = false := by
        rw [beq_eq_false_iff_ne]
        intro h
        exact h45 (UInt8.toNat_inj.1 (by have : s[0].toNat = 45 := by omega
                                         rw [this]; rfl))
      rw [e]
      simp [List.isPrefixOf, Ne.symm h45]
  obtain ⟨hHr, hup⟩ := up_eq (negP s.data.toList) (frP s.data.toList) hfd _ rfl
  have hn := dblK_le 16 _ (small_dv _ hfd)
  have hfl : (frP s.data.toList).length ≤ 40 := by
    rw [← hfr, List.length_drop, hl]; omega
  have ht : s.extract (fmBehind s.data.toList) s.size = ⟨(frP s.data.toList).toArray⟩ := by
    rw [extract_from, hfr]
  refine (rnear_core s ⟨(frP s.data.toList).toArray⟩ w (by omega) hpos (negP s.data.toList) hng (fmAt s.data.toList) (fmEnd s.data.toList) (fmBehind s.data.toList) (val (whP s.data.toList)) (dblK 16 ((frP s.data.toList).map dv)).1
    (fun k => val ((s.data.toList.take k).drop (fmAt s.data.toList))) (dblK 16 ((frP s.data.toList).map dv)).2 _ hAE (by omega) (by omega) ht (by omega) ?p0 (by show val _ = val _; rw [hwh]) ?ps ?pm cF
    (fun w => bits_any _ w hfl hfd) (by rw [size_mk]; exact hfl) rfl hHr _ (sgnP s.data.toList) ?x rfl).mono ?_
  case p0 =>
    show val ((s.data.toList.take (fmAt s.data.toList)).drop (fmAt s.data.toList)) = 0
    rw [List.drop_eq_nil_of_le (by rw [List.length_take]; omega)]
    rfl
  case ps =>
    intro k hk hkE
    have hks : k < s.size := by omega
    have hst : (s.data.toList.take (k + 1)).drop (fmAt s.data.toList) = (s.data.toList.take k).drop (fmAt s.data.toList) ++ [s[k]] := by
      rw [take_byte s k hks, List.drop_append_of_le_length (by rw [List.length_take]; omega)]
    have hdk : isDig s[k] = true := by
      have hm : s[k] ∈ whP s.data.toList := by
        rw [← hwh]
        have h1 : s[k] ∈ (s.data.toList.take (k + 1)).drop (fmAt s.data.toList) := by rw [hst]; simp
        have h2 : (s.data.toList.take (k + 1)).drop (fmAt s.data.toList) <+: (s.data.toList.take (fmEnd s.data.toList)).drop (fmAt s.data.toList) := by
          rw [List.drop_take, List.drop_take]
          exact List.take_prefix_take_left (by omega)
        exact h2.subset h1
      have := digs_all _ hwd
      rw [List.all_eq_true] at this
      exact this _ hm
    have h9 := dv_le _ hdk
    refine ⟨dv s[k], hks, h9.2, h9.1, ?_⟩
    show val ((s.data.toList.take (k + 1)).drop (fmAt s.data.toList)) = _
    rw [hst, val_snoc]
  case pm =>
    intro k hk hkE
    show val ((s.data.toList.take k).drop (fmAt s.data.toList)) ≤ _
    rw [← hwh]
    have h2 : (s.data.toList.take k).drop (fmAt s.data.toList) <+: (s.data.toList.take (fmEnd s.data.toList)).drop (fmAt s.data.toList) := by
      rw [List.drop_take, List.drop_take]
      exact List.take_prefix_take_left (by omega)
    obtain ⟨u, hu⟩ := h2
    rw [← hu, val_append]
    have : 0 < 10 ^ u.length := Nat.pow_pos (by decide)
    have := Nat.le_mul_of_pos_right (val ((s.data.toList.take k).drop (fmAt s.data.toList))) this
    omega
  case x =>
    unfold sgnP magP
    cases hneg : negP s.data.toList
    · rw [hneg] at hup
      simp only [Bool.false_eq_true, if_false] at hup ⊢
      omega
    · rw [hneg] at hup
      simp only [if_true] at hup ⊢
      omega
  · rintro e w' ⟨rfl, hb⟩
    refine ⟨?_, hb⟩
    split <;> rfl

theorem rparse_bad (s : ByteArray) (x e : Int) (w : World) (he : (e != 0) = true)
    (cN : Calls Tryz.prog 100 #[.string s] w fun r w' => r = .returned (.tuple #[.int .i64 x, .int .i64 e]) ∧ Below w.heap.size w w') :
    Calls Tryz.prog 87 #[.string s] w fun r w' => r = .returned (.tuple #[.int .i64 0, .bool false]) ∧ Below w.heap.size w w' := by
  have CN := hide cN
  clear cN
  have he' : ¬ e = 0 := by simpa using he
  go_enter Tryz.func87, Tryz.ntmps87
  go_wp2_with (go_at_call 100; refine CN.out.mono ?_; rintro r w1 ⟨rfl, hb⟩)
  go_ret2
  exact ⟨rfl, hb⟩
theorem rparse_core (s t : ByteArray) (x : Int) (b : Bool) (w : World) (hb : (t.toList == s.toList) = b)
    (cN : Calls Tryz.prog 100 #[.string s] w fun r w' => r = .returned (.tuple #[.int .i64 x, .int .i64 0]) ∧ Below w.heap.size w w')
    (cT : ∀ w1, Calls Tryz.prog 37 #[.int .i64 x] w1 fun r w' => r = .returned (.tuple #[.string t, .bool true]) ∧ Below w1.heap.size w1 w') :
    Calls Tryz.prog 87 #[.string s] w fun r w' => r = .returned (.tuple #[.int .i64 (if b then x else 0), .bool b]) ∧ Below w.heap.size w w' := by
  have CN := hide cN
  have CT := hide cT
  have hb' : t.toList = s.toList ↔ b = true := by rw [← hb]; simp
  clear cN cT
  cases b
  all_goals
    simp only [Bool.false_eq_true, iff_false, iff_true] at hb'
    go_enter Tryz.func87, Tryz.ntmps87
    go_wp2_with (first | (go_at_call 100; refine CN.out.mono ?_; rintro r w1 ⟨rfl, hb1⟩) | (go_at_call 37; refine (CT.out _).mono ?_; rintro r w2 ⟨rfl, hb2⟩))
    go_ret2
    exact ⟨rfl, hb1.trans (hb2.mono hb1.size)⟩
theorem rparse_any (s : ByteArray) (w : World) :
    Calls Tryz.prog 87 #[.string s] w fun r w' => r = .returned (.tuple #[.int .i64 (parV s.data.toList), .bool (parB s.data.toList)]) ∧ Below w.heap.size w w' := by
  have cN := rnear_any s w
  unfold parV parB
  by_cases h : (nearP s.data.toList).2 = 0
  · have hin := nearP_in _ h
    rw [h] at cN
    refine (rparse_core s ⟨(textL (nearP s.data.toList).1).toArray⟩ _ _ w rfl cN ?_).mono ?_
    · intro w1
      have := rtext_any (nearP s.data.toList).1 w1
      unfold textV at this
      rwa [hin, if_pos rfl] at this
    · rintro r w' ⟨rfl, hb⟩
      refine ⟨?_, hb⟩
      rw [ByteArray.toList_eq, ByteArray.toList_eq, h]
      simp
  · refine (rparse_bad s _ _ w (by simpa using h) cN).mono ?_
    rintro r w' ⟨rfl, hb⟩
    refine ⟨?_, hb⟩
    rw [decide_eq_false h]
    simp
end Go.Proofs.YtalmcdbdibpgkaaGreatDoor.D2
