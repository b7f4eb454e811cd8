/-
  Joined: E2Scan, E2Small, E2Nrow, E2Nearest, E2Frac, E2Text, E2Dec, E2RText, LaidAt, O5Glo.
-/
import Derived.Test.YtlnkddmpcicejaaDoorProg
import Derived.Test.YtlnkddmpcicejaaDoorBA
import Derived.WalkKit
import Derived.Outline
import Derived.Laws.OwnMore
import Derived.Test.YtlnkddmpcicejaaDoorShelf
import Derived.Deep.RegionWith
import Derived.Laws.Concat
import Derived.Lib.TrimByte
import Derived.Test.YtlnkddmpcicejaaDoorRows
import Derived.Lib.LaidTab
import Derived.MakeChecks
/-
  What the reference's digits (chapter 2) answers: how many digits stand from a place on.
-/
namespace Go.Proofs.YtlnkddmpcicejaaDoor.D2
set_option maxRecDepth 8000
open Go.RowKit

def isDig (c : UInt8) : Bool := decide (48 ≤ c.toNat ∧ c.toNat ≤ 57)
/- how many digits a list opens with -/
def dgc : List UInt8 → Nat
  | [] => 0
  | c :: l => if isDig c then 1 + dgc l else 0
theorem dgc_le (l : List UInt8) : dgc l ≤ l.length := by
  induction l with
  | nil => simp [dgc]
  | cons c l ih => unfold dgc; split <;> simp <;> omega
theorem drop_at (s : ByteArray) (k : Nat) (h : k < s.size) : s.data.toList.drop k = s[k] :: s.data.toList.drop (k + 1) := by
  rw [List.drop_eq_getElem_cons (by simpa using h)]
  rfl
theorem size_list (s : ByteArray) : s.data.toList.length = s.size := by simp

end Go.Proofs.YtlnkddmpcicejaaDoor.D2
/-
  What digits.allDigits and digits.wholeNumber answer.
-/
namespace Go.Proofs.YtlnkddmpcicejaaDoor.D2
set_option maxRecDepth 8000
open Go.RowKit

def digs (l : List UInt8) : Bool := l.all isDig && !l.isEmpty
def dv (c : UInt8) : Nat := c.toNat - 48
def val (l : List UInt8) : Nat := l.foldl (fun a c => 10 * a + dv c) 0

theorem get_byte' (s : ByteArray) (k : Nat) (h : k < s.size) : s.data.toList[k]? = some s[k] := by
  rw [List.getElem?_eq_getElem (by simpa using h)]
  rfl
theorem take_byte (s : ByteArray) (k : Nat) (h : k < s.size) : s.data.toList.take (k + 1) = s.data.toList.take k ++ [s[k]] := by
  rw [List.take_add_one, get_byte' s k h]
  rfl
theorem val_snoc (l : List UInt8) (c : UInt8) : val (l ++ [c]) = 10 * val l + dv c := by simp [val]
theorem dv_le (c : UInt8) (h : isDig c = true) : dv c ≤ 9 ∧ (c.toNat : Int) = 48 + (dv c : Int) := by unfold isDig at h; unfold dv; simp at h; omega
theorem val_lt (l : List UInt8) (h : l.all isDig = true) : val l < 10 ^ l.length := by
  have : ∀ (m : List UInt8), m.all isDig = true → val m.reverse < 10 ^ m.length := by
    intro m
    induction m with
    | nil => intro _; decide
    | cons c m ih =>
      intro h
      simp only [List.all_cons, Bool.and_eq_true] at h
      rw [List.reverse_cons, val_snoc, List.length_cons, Nat.pow_succ]
      have := ih h.2
      have := (dv_le c h.1).1
      omega
  have := this l.reverse (by rw [List.all_reverse]; exact h)
  rwa [List.reverse_reverse, List.length_reverse] at this

end Go.Proofs.YtlnkddmpcicejaaDoor.D2
/-
  A fraction's digits times 65536: what is carried out ahead of the point, and the digits behind it.
-/
namespace Go.Proofs.YtlnkddmpcicejaaDoor.D2
set_option maxRecDepth 8000
open Go.RowKit

def dgB (d : Nat) : UInt8 := UInt8.ofNat (48 + d)
theorem dgB_nat (d : Nat) (h : d < 10) : (dgB d).toNat = 48 + d := by
  unfold dgB
  rw [UInt8.toNat_ofNat']
  omega
theorem dgB_dig (d : Nat) (h : d < 10) : isDig (dgB d) = true ∧ dv (dgB d) = d := by
  have := dgB_nat d h
  unfold isDig dv
  refine ⟨by simp; omega, by omega⟩
def nrow : List UInt8 → Nat × List UInt8
  | [] => (0, [])
  | c :: l => ((dv c * 65536 + (nrow l).1) / 10, dgB ((dv c * 65536 + (nrow l).1) % 10) :: (nrow l).2)
theorem nrow_cons (c : UInt8) (l : List UInt8) : nrow (c :: l) = ((dv c * 65536 + (nrow l).1) / 10, dgB ((dv c * 65536 + (nrow l).1) % 10) :: (nrow l).2) := rfl
theorem nrow_len (l : List UInt8) : (nrow l).2.length = l.length := by
  induction l with
  | nil => rfl
  | cons c l ih => rw [nrow_cons]; simp [ih]
theorem nrow_dig (l : List UInt8) : (nrow l).2.all isDig = true := by
  induction l with
  | nil => rfl
  | cons c l ih =>
    rw [nrow_cons]
    simp only [List.all_cons, Bool.and_eq_true]
    exact ⟨(dgB_dig _ (by omega)).1, ih⟩
theorem foldl_val (l : List UInt8) (a : Nat) : l.foldl (fun a c => 10 * a + dv c) a = a * 10 ^ l.length + val l := by
  have : ∀ (m : List UInt8), m.reverse.foldl (fun a c => 10 * a + dv c) a = a * 10 ^ m.length + val m.reverse := by
    intro m
    induction m with
    | nil => simp [val]
    | cons c m ih =>
      rw [List.reverse_cons, List.foldl_append, List.foldl_cons, List.foldl_nil, ih, val_snoc, List.length_cons, Nat.pow_succ, Nat.mul_add, ← Nat.mul_assoc 10 a, Nat.mul_comm 10 a, Nat.mul_assoc a 10, Nat.mul_comm 10 (10 ^ m.length)]
      omega
  have := this l.reverse
  rwa [List.reverse_reverse, List.length_reverse] at this
theorem val_cons (c : UInt8) (l : List UInt8) : val (c :: l) = dv c * 10 ^ l.length + val l := by
  have := foldl_val l (dv c)
  unfold val at *
  rw [List.foldl_cons]
  simpa using this
theorem val_append (a b : List UInt8) : val (a ++ b) = val a * 10 ^ b.length + val b := by
  have := foldl_val b (val a)
  unfold val at *
  rw [List.foldl_append]
  exact this
theorem nrow_val (l : List UInt8) : (nrow l).1 * 10 ^ l.length + val (nrow l).2 = val l * 65536 := by
  induction l with
  | nil => rfl
  | cons c l ih =>
    rw [nrow_cons, val_cons, val_cons]
    simp only [List.length_cons, Nat.pow_succ]
    rw [nrow_len, (dgB_dig _ (by omega : (dv c * 65536 + (nrow l).1) % 10 < 10)).2]
    generalize 10 ^ l.length = T at *
    generalize hP : dv c * 65536 + (nrow l).1 = P
    have h1 : P / 10 * 10 + P % 10 = P := by omega
    have h2 : P / 10 * (T * 10) + P % 10 * T = P * T := by
      rw [Nat.mul_comm T 10, ← Nat.mul_assoc, ← Nat.add_mul, h1]
    have h3 : P * T = dv c * 65536 * T + (nrow l).1 * T := by rw [← hP, Nat.add_mul]
    have h4 : (dv c * T + val l) * 65536 = dv c * 65536 * T + val l * 65536 := by rw [Nat.add_mul, Nat.mul_right_comm]
    omega
theorem nrow_parts (l : List UInt8) : (nrow l).1 = val l * 65536 / 10 ^ l.length ∧ val (nrow l).2 = val l * 65536 % 10 ^ l.length := by
  have h1 := nrow_val l
  have h2 := val_lt _ (nrow_dig l)
  rw [nrow_len] at h2
  have hp : 0 < 10 ^ l.length := Nat.pow_pos (by decide)
  rw [← h1]
  constructor
  · rw [Nat.add_comm, Nat.add_mul_div_right _ _ hp, Nat.div_eq_of_lt h2, Nat.zero_add]
  · rw [Nat.add_comm, Nat.add_mul_mod_self_right, Nat.mod_eq_of_lt h2]
theorem nrow_le (l : List UInt8) (h : l.all isDig = true) : (nrow l).1 ≤ 65535 := by
  have h1 := (nrow_parts l).1
  have h2 := val_lt l h
  have hp : 0 < 10 ^ l.length := Nat.pow_pos (by decide)
  rw [h1]
  have : val l * 65536 < 10 ^ l.length * 65536 := Nat.mul_lt_mul_of_pos_right h2 (by decide)
  have := Nat.div_lt_of_lt_mul this
  omega
end Go.Proofs.YtlnkddmpcicejaaDoor.D2
/-
  What digits.nearest answers.
-/
namespace Go.Proofs.YtlnkddmpcicejaaDoor.D2
set_option maxRecDepth 8000
open Go.RowKit

theorem info_u8 : (Tryd.prog.info? 5).map (fun i => (i.zero, i.size, i.bytes)) = some (some (.int .u8 0), 1, 1) := by kernel_rfl
def bcell (b : UInt8) : Value := Value.int .u8 (b.toNat : Int)
/- a row of the call's own that holds bytes -/
def OwnB (w : World) (base g n cap : Nat) (ys : List UInt8) : Prop := w.ownsRow base 5 1 (.slice (some ⟨g, 0, none⟩) n cap) n (ys.map bcell)
theorem OwnB.at {w : World} {base g n cap : Nat} {ys : List UInt8} (h : OwnB w base g n cap ys) (i : Nat) (hi : i < ys.length) : w.cell? ⟨g, i, none⟩ = some (bcell ys[i]) := by
  have := World.ownsRow.cellAt h i (by have := h.1; simp at this; omega)
  rw [this, List.getElem?_map, List.getElem?_eq_getElem hi]
  rfl
theorem OwnB.stored {w : World} {base g n cap : Nat} {ys : List UInt8} (h : OwnB w base g n cap ys) (j : Nat) (x : UInt8) : OwnB (w.setCell ⟨g, j, none⟩ (bcell x)) base g n cap (ys.set j x) := by
  have := (World.ownsRow.stored h j (bcell x)).1
  unfold OwnB
  rw [List.map_set]
  exact this
theorem own_made8 (w1 : World) (base g n : Nat) (h : w1.ownsRow base 5 1 (.slice (some ⟨g, 0, none⟩) n n) n (madeCells (Value.int .u8 0).cells (n * 1)).toList) :
    OwnB w1 base g n n (List.replicate n 0) := by
  unfold OwnB
  have e : (madeCells (Value.int .u8 0).cells (n * 1)).toList = (List.replicate n (0 : UInt8)).map bcell := by
    rw [Nat.mul_one, show (Value.int .u8 0).cells = #[Value.int .u8 0] from rfl, toList_madeCells_one, List.map_replicate]
    rfl
  rw [← e]
  exact h
/- string(row) -/
theorem OwnB.text {w : World} {base g n cap : Nat} {ys : List UInt8} (h : OwnB w base g n cap ys) (hn : ys.length = n) :
    (convert 52 9 (.slice (some ⟨g, 0, none⟩) n cap)).run Tryd.prog w = .ok (.string ⟨ys.toArray⟩) w := by
  subst hn
  refine run_convert_bytes_back (P := Tryd.prog) w 52 9 5 ⟨g, 0, none⟩ cap ys Tryd.underlying52 Tryd.underlying5 Tryd.underlying9 ?_
  intro k hk
  have := h.at k hk
  rw [Go.WideShapes.add_plain, Nat.zero_add, this]
  rfl

/- the row while the loop goes: j places to go -/
def nst (l : List UInt8) (j : Nat) : List UInt8 := List.replicate j 0 ++ (nrow (l.drop j)).2
theorem nst_len (l : List UInt8) (j : Nat) (h : j ≤ l.length) : (nst l j).length = l.length := by
  unfold nst
  rw [List.length_append, nrow_len, List.length_replicate, List.length_drop]
  omega
theorem nst_set (l : List UInt8) (j : Nat) (x : UInt8) (d : Nat) (hx : x = dgB d) (h : nrow (l.drop j) = (((nrow (l.drop j)).1), dgB d :: (nrow (l.drop (j + 1))).2)) :
    (nst l (j + 1)).set j x = nst l j := by
  unfold nst
  rw [h, hx]
  simp only []
  rw [List.set_append, if_pos (by simp), List.replicate_succ', List.set_append, if_neg (by simp)]
  simp

end Go.Proofs.YtlnkddmpcicejaaDoor.D2
/-
  What digits.appendFraction leaves.
-/
namespace Go.Proofs.YtlnkddmpcicejaaDoor.D2
set_option maxRecDepth 8000
open Go.RowKit

/- the digits of r / 65536 behind the point -/
def fdig : Nat → Nat → List UInt8
  | 0, _ => []
  | f + 1, r => if r = 0 then [] else dgB (r * 10 / 65536) :: fdig f (r * 10 % 65536)
def frac (r : Nat) : List UInt8 := if r = 0 then [] else 46 :: fdig 16 r
theorem fdig_zero (f : Nat) : fdig f 0 = [] := by cases f <;> simp [fdig]
theorem fdig_len (f r : Nat) : (fdig f r).length ≤ f := by
  induction f generalizing r with
  | zero => simp [fdig]
  | succ f ih =>
    unfold fdig
    split
    · simp
    · have := ih (r * 10 % 65536)
      simp
      omega
def sLen : Value → Nat
  | .slice _ n _ => n
  | _ => 0
theorem own_sLen {w : World} {B e n : Nat} {v : Value} {xs : List Value} (h : w.ownsRow B e 1 v n xs) : sLen v = n := by
  obtain ⟨_, ⟨h0, h1⟩ | ⟨g, cap, cur, hv, _⟩⟩ := h
  · rw [h0]; simp [sLen]; omega
  · rw [hv]; rfl
/- while the loop goes -/
structure FSt (r k rk : Nat) (ys : List UInt8) : Prop where
  k16 : k ≤ 16
  len : ys.length = k + 1
  lt : rk < 65536
  two : 2 ^ k ∣ rk
  all : ys ++ fdig (16 - k) rk = 46 :: fdig 16 r
theorem FSt.start (r : Nat) (h : r < 65536) : FSt r 0 r [46] := ⟨by omega, rfl, h, by simp, rfl⟩
theorem FSt.step {r k rk : Nat} {ys : List UInt8} (h : FSt r k rk ys) (h0 : rk ≠ 0) : FSt r (k + 1) (rk * 10 % 65536) (ys ++ [dgB (rk * 10 / 65536)]) := by
  obtain ⟨h1, h2, h3, ⟨c, h4⟩, h5⟩ := h
  have hk : k < 16 := by
    rcases Nat.lt_or_ge k 16 with h | h
    · exact h
    · obtain rfl : k = 16 := by omega
      exfalso
      rw [h4] at h3 h0
      have : c = 0 := by
        rcases Nat.eq_zero_or_pos c with h | h
        · exact h
        · have := Nat.mul_le_mul_left (2 ^ 16) h
          omega
      rw [this] at h0
      omega
  refine ⟨by omega, by simp [h2], by omega, ?_, ?_⟩
  · have d1 : 2 ^ (k + 1) ∣ rk * 10 := ⟨c * 5, by rw [h4, Nat.pow_succ]; rw [show (10 : Nat) = 2 * 5 from rfl, Nat.mul_assoc (2 ^ k) 2, Nat.mul_assoc (2 ^ k) c]; congr 1; omega⟩
    have d2 : 2 ^ (k + 1) ∣ 65536 := by
      rw [show (65536 : Nat) = 2 ^ 16 from rfl]
      exact Nat.pow_dvd_pow 2 (by omega)
    exact (Nat.dvd_mod_iff d2).2 d1
  · rw [← h5, List.append_assoc]
    congr 1
    rw [show 16 - k = (16 - (k + 1)) + 1 by omega]
    rw [show fdig ((16 - (k + 1)) + 1) rk = dgB (rk * 10 / 65536) :: fdig (16 - (k + 1)) (rk * 10 % 65536) by rw [fdig, if_neg h0]]
    rfl
theorem FSt.done {r k : Nat} {ys : List UInt8} (h : FSt r k 0 ys) : ys = 46 :: fdig 16 r := by
  have := h.all
  rwa [fdig_zero, List.append_nil] at this

set_option maxRecDepth 100000 in
set_option maxHeartbeats 1000000 in
theorem fraction_any (B n r : Nat) (sv : Value) (xs : List Value) (w : World) (hr : r < 65536) (hown : w.ownsRow B 5 1 sv n xs) (hB : B ≤ w.heap.size) (hn : n ≤ 1000) :
    Calls Tryd.prog 51 #[sv, .int .i64 r] w fun e w' => ∃ v', e = .returned v' ∧ w'.ownsRow B 5 1 v' (n + (frac r).length) (xs ++ (frac r).map bcell) ∧ Below B w w' := by
  by_cases h0 : r = 0
  · subst h0
    have HO := hide hown
    clear hown
    go_enter Tryd.func51, Tryd.ntmps51
    go_wp2
    go_ret
    exact ⟨sv, rfl, by simpa [frac] using HO.out, Below.refl _ _⟩
  have hf : frac r = 46 :: fdig 16 r := by unfold frac; rw [if_neg h0]
  rw [hf]
  obtain ⟨F, hF⟩ : ∃ F, fdig 16 r = F := ⟨_, rfl⟩
  rw [hF]
  have HF := hide hF
  clear hF
  obtain ⟨i0, hi, hz0, hz1, hz2⟩ := info_parts info_u8
  have HI := hide hi
  have HI0 := hide hz0
  have HI1 := hide hz1
  have HI2 := hide hz2
  have HO := hide hown
  have hr0 : ((r : Int) == 0) = false := by rw [beq_eq_false_iff_ne]; omega
  have h1 : ¬ (r : Int) = 0 := by omega
  have HS := hide (FSt.start r hr)
  have hr' : (r : Int) ≤ 65535 := by omega
  have HN := hide hn
  clear hi hz0 hz1 hz2 hown h0 hf hr
  go_enter Tryd.func51, Tryd.ntmps51
  go_wp2_with (at_builtin; refine wpList_append_own _ rfl _ _ 52 rfl B 5 i0 (.int .u8 0) 1 1 Tryd.underlying52 HI.out HI0.out HI1.out HI2.out rfl (by decide) _ _ _ rfl (HO.out.alloc _) ⟨w.heap.size, 0, none⟩ 1 1 [.int .u8 46] rfl rfl ?c1 ?c2 ?c3 ?c4 ?c5 ?_)
  case c1 =>
    intro j u hj
    match j, hj with
    | 0, hj => simp at hj; subst hj; simp [Addr.add]
  case c2 => intro u hu; simp at hu; subst hu; rfl
  case c3 => unfold maxLen; omega
  case c4 => omega
  case c5 => simp; omega
  intro v1 w1 hown1 hgrow1 _
  have HB := hide (show Below B w w1 from ((Below.refl _ _).alloc hB _).grown hgrow1 (by simp; omega) (fun k hk => (HO.out.lt k hk).1))
  have HO1 := hide (show w1.ownsRow B 5 1 v1 (n + [46].length) (xs ++ ([46] : List UInt8).map bcell) from hown1)
  clear hown1 hgrow1
  go_wp2_with fail
  go_loopw [0, 1] (fun v vr wr => ∃ (k rk : Nat) (ys : List UInt8), vr = .int .i64 rk ∧ Hid (FSt r k rk ys ∧ wr.ownsRow B 5 1 v (n + ys.length) (xs ++ ys.map bcell) ∧ Below B w wr)) (fun v _ _ => n + 17 - sLen v)
  case atStart => exact ⟨0, r, [46], rfl, hide ⟨HS.out, HO1.out, HB.out⟩⟩
  case round =>
    obtain ⟨k, rk, ys, rfl, HK⟩ := hrel
    obtain ⟨k1, k2, k3⟩ := HK.out
    clear HK
    have hb := k1.lt
    have hb' : (rk : Int) ≤ 65535 := by omega
    clear hb
    by_cases h0 : rk = 0
    · subst h0
      have hy := k1.done
      rw [HF.out] at hy
      subst hy
      have K2 := hide k2
      have K3 := hide k3
      clear k1 k2 k3
      go_wp2
      go_ret
      exact ⟨_, rfl, K2.out, K3.out⟩
    · have h1 : ¬ (rk : Int) = 0 := by omega
      have st := k1.step h0
      have HM := hide (show rk * 10 = 65536 * (rk * 10 / 65536) + rk * 10 % 65536 ∧ rk * 10 / 65536 < 10 ∧ rk * 10 % 65536 < 65536 by omega)
      have e1 : (rk : Int) * 10 / 65536 = ((rk * 10 / 65536 : Nat) : Int) := by omega
      have e2 : (rk : Int) * 10 % 65536 = ((rk * 10 % 65536 : Nat) : Int) := by omega
      have hl := own_sLen k2
      have hk := k1.k16
      have hy := k1.len
      have st2 := st.k16
      have K2 := hide k2
      have K3 := hide k3
      have K1 := hide st
      have hsz := k3.size
      generalize rk * 10 / 65536 = Q at *
      generalize rk * 10 % 65536 = M at *
      have hq : dgB Q = dgB Q := rfl
      have hQ := HM.out.2.1
      have hbc : ∀ y : Int, y = 48 + (Q : Int) → Value.int .u8 y = bcell (dgB Q) := by
        intro y hy
        unfold bcell
        rw [dgB_nat Q hQ, hy]
        congr 1
      have HBC := hide hbc
      have hQ' : (Q : Int) ≤ 9 := by omega
      have f1 : ((rk : Int) != 0) = true := by rw [bne_iff_ne]; exact h1
      clear st k1 k2 k3 hq hbc hQ hn h0
      have HY := hide (show ys.length ≤ 16 by omega)
      have HL2 := hide hl
      clear hk hy hl st2
      go_wp2_with (at_builtin; refine wpList_append_own _ rfl _ _ 52 rfl B 5 i0 (.int .u8 0) 1 1 Tryd.underlying52 HI.out HI0.out HI1.out HI2.out rfl (by decide) _ _ _ rfl (K2.out.alloc _) ⟨wr.heap.size, 0, none⟩ 1 1 [.int .u8 (48 + (Q : Int))] rfl rfl ?d1 ?d2 ?d3 ?d4 ?d5 ?_)
      case d1 =>
        intro j u hj
        match j, hj with
        | 0, hj => simp at hj; subst hj; simp [Addr.add]
      case d2 => intro u hu; simp at hu; subst hu; rfl
      case d3 => have := HY.out; have := HN.out; unfold maxLen; omega
      case d4 => have := HY.out; have := HN.out; omega
      case d5 => simp; omega
      intro v2 w2 hown2 hgrow2 _
      have HB2 := hide (show Below B w w2 from (K3.out.alloc (by omega) _).grown hgrow2 (by simp; omega) (fun k hk => (K2.out.lt k hk).1))
      have HO2 := hide (show w2.ownsRow B 5 1 v2 (n + (ys ++ [dgB Q]).length) (xs ++ (ys ++ [dgB Q]).map bcell) by
        have e : xs ++ (ys ++ [dgB Q]).map bcell = xs ++ (ys.map bcell ++ [.int .u8 (48 + (Q : Int))]) := by
          rw [List.map_append, HBC.out _ rfl]; rfl
        rw [e, List.length_append, ← Nat.add_assoc]
        exact hown2)
      clear hown2 hgrow2
      go_wp2
      go_roundw
      case rel => exact ⟨k + 1, M, _, congrArg _ e2, hide ⟨K1.out, HO2.out, HB2.out⟩⟩
      case measure =>
        have a1 := own_sLen HO2.out
        have a2 := HL2.out
        have a3 := HY.out
        simp only [List.length_append, List.length_cons, List.length_nil] at a1
        simp
        omega
end Go.Proofs.YtlnkddmpcicejaaDoor.D2
/-
  What digits.Text answers.
-/
namespace Go.Proofs.YtlnkddmpcicejaaDoor.D2
set_option maxRecDepth 8000
open Go.RowKit Go.Lib

/- what the library's variables hold -/
structure Glo (w : World) : Prop where
  tab : TabIs Tryd.prog w "internal/strconv.uint64pow10" .u64 pow10Tab
theorem cell_lt {w : World} {p : Addr} {v : Value} (h : w.cell? p = some v) : p.block < w.heap.size := by
  rcases Nat.lt_or_ge p.block w.heap.size with h1 | h1
  · exact h1
  · exfalso
    have : w.heap[p.block]? = none := Array.getElem?_eq_none h1
    unfold World.cell? at h
    simp [this] at h
theorem Glo.below {w w' : World} (h : Glo w) (hb : Below w.heap.size w w') : Glo w' := ⟨tabBelow_of_tabIs h.tab w' hb⟩

def textL (x : Int) : List UInt8 := (if x < 0 then [45] else []) ++ decDigits (x.natAbs / 65536) ++ frac (x.natAbs % 65536)
theorem own_shape {w : World} {B n : Nat} {v : Value} {ys : List UInt8} (h : w.ownsRow B 5 1 v n (ys.map bcell)) (hne : 0 < n) :
    ∃ g cap, v = .slice (some ⟨g, 0, none⟩) n cap ∧ OwnB w B g n cap ys := by
  have h' := h
  obtain ⟨_, ⟨h0, h1⟩ | ⟨g, cap, cur, hv, _⟩⟩ := h'
  · omega
  · rw [hv] at h; exact ⟨g, cap, hv, h⟩
theorem itoa_nat (q : Nat) : itoa (q : Int) = decDigits q := by unfold itoa; rw [if_neg (by omega)]; rfl
theorem nDigits_le (k u : Nat) (h : u < 10 ^ (k + 1)) : nDigits u ≤ k + 1 := by
  induction k generalizing u with
  | zero => rw [nDigits_small (by simpa using h)]; omega
  | succ k ih =>
    by_cases h0 : u < 10
    · rw [nDigits_small h0]; omega
    · rw [nDigits_big h0]
      have := ih (u / 10) (by rw [Nat.pow_succ] at h; omega)
      omega
theorem dec_len (q : Nat) (h : q ≤ 16777216) : (decDigits q).length ≤ 8 ∧ 0 < (decDigits q).length := by
  rw [decDigits_length]
  exact ⟨nDigits_le 7 q (by omega), nDigits_pos q⟩

theorem text_out (x : Int) (w : World) (h : inB x = false) :
    Calls Tryd.prog 40 #[.int .i64 x] w fun e w' => e = .returned (.tuple #[.string ⟨#[]⟩, .bool false]) ∧ w' = w := by
  go_enter Tryd.func40, Tryd.ntmps40
  go_wp2_with (go_at_call 50; refine (in_any _ _).mono ?_; rintro e w' ⟨rfl, rfl⟩)
  go_ret2
  exact ⟨rfl, rfl⟩

set_option maxHeartbeats 1000000 in
theorem text_pos (a Q M : Nat) (w : World) (hg : Glo w) (h : inB (a : Int) = true) (hQ : a / 65536 = Q) (hM : a % 65536 = M) (L : List UInt8) (hL : decDigits Q ++ frac M = L) :
    Calls Tryd.prog 40 #[.int .i64 a] w fun e w' => e = .returned (.tuple #[.string ⟨L.toArray⟩, .bool true]) ∧ Below w.heap.size w w' := by
  have hb := inB_bd h
  have HA : Hid (∀ sv w1 n xs, w1.ownsRow w.heap.size 5 1 sv n xs → n ≤ 1 → Below w.heap.size w w1 → Calls Tryd.prog 39 #[sv, .int .i64 Q, .int .i64 10] w1 fun e w' => ∃ v', e = .returned v' ∧ w'.ownsRow w.heap.size 5 1 v' (n + (decDigits Q).length) (xs ++ (decDigits Q).map bcell) ∧ Below w.heap.size w1 w') := by
    intro sv w1 n xs h1 h2 h3
    have := Any.strconv_AppendInt_10 laysM176 w.heap.size n (Q : Int) (by omega) (by omega) sv xs w1 h1 h3.size (by omega) ((tabBelow_of_tabIs hg.tab).on h3)
    rw [itoa_nat] at this
    refine this.mono ?_
    rintro e w' ⟨v', h1, h2, h3, _⟩
    exact ⟨v', h1, h2, h3⟩
  have HD := hide (dec_len Q (by omega))
  have HM := hide (show M < 65536 by omega)
  have HL := hide hL
  have e1 : (a : Int) / 65536 = (Q : Int) := by omega
  have e2 : (a : Int) % 65536 = (M : Int) := by omega
  have b1 : (a : Int) ≤ 1099511627776 := by omega
  clear hg hb hQ hM hL
  go_enter Tryd.func40, Tryd.ntmps40
  go_wp2_with (go_at_call 50; refine (in_any _ _).mono ?_; rintro e w' ⟨rfl, rfl⟩)
  refine (HA.out _ _ _ _ (World.ownsRow_nil _ _ _ _) (by omega) (Below.refl _ _)).mono ?_
  rintro e w1 ⟨v1, rfl, hown1, hb1⟩
  simp only [Nat.zero_add, List.nil_append] at hown1
  have HO := hide hown1
  have HB := hide (hb1 : Below w'.heap.size w' w1)
  clear hown1 hb1
  go_wp2_with fail
  refine (fraction_any w'.heap.size _ M v1 _ w1 HM.out HO.out HB.out.size (by have := HD.out; omega)).mono ?_
  rintro e w2 ⟨v2, rfl, hown2, hb2⟩
  obtain ⟨g, cap, rfl, hO⟩ := own_shape (ys := decDigits Q ++ frac M) (by simpa using hown2) (by have := HD.out; omega)
  have hcv := hO.text (by simp)
  have HB2 := hide (HB.out.trans hb2)
  clear hown2 hb2 hO
  go_wp2
  go_ret2
  exact ⟨by rw [← HL.out]; simp, HB2.out⟩
set_option maxHeartbeats 1000000 in
theorem text_neg (a Q M : Nat) (w : World) (hg : Glo w) (h : inB (-(a : Int)) = true) (h0 : 0 < a) (hQ : a / 65536 = Q) (hM : a % 65536 = M) (L : List UInt8) (hL : 45 :: (decDigits Q ++ frac M) = L) :
    Calls Tryd.prog 40 #[.int .i64 (-(a : Int))] w fun e w' => e = .returned (.tuple #[.string ⟨L.toArray⟩, .bool true]) ∧ Below w.heap.size w w' := by
  have hb := inB_bd h
  have HA : Hid (∀ sv w1 n xs, w1.ownsRow w.heap.size 5 1 sv n xs → n ≤ 1 → Below w.heap.size w w1 → Calls Tryd.prog 39 #[sv, .int .i64 Q, .int .i64 10] w1 fun e w' => ∃ v', e = .returned v' ∧ w'.ownsRow w.heap.size 5 1 v' (n + (decDigits Q).length) (xs ++ (decDigits Q).map bcell) ∧ Below w.heap.size w1 w') := by
    intro sv w1 n xs h1 h2 h3
    have := Any.strconv_AppendInt_10 laysM176 w.heap.size n (Q : Int) (by omega) (by omega) sv xs w1 h1 h3.size (by omega) ((tabBelow_of_tabIs hg.tab).on h3)
    rw [itoa_nat] at this
    refine this.mono ?_
    rintro e w' ⟨v', h1, h2, h3, _⟩
    exact ⟨v', h1, h2, h3⟩
  have HD := hide (dec_len Q (by omega))
  have HM := hide (show M < 65536 by omega)
  have HL := hide hL
  have h0' : (0 : Int) < (a : Int) := by omega
  have hneg : -(a : Int) < 0 := by omega
  obtain ⟨i0, hi, hz0, hz1, hz2⟩ := info_parts info_u8
  have HI := hide hi
  have HI0 := hide hz0
  have HI1 := hide hz1
  have HI2 := hide hz2
  clear hi hz0 hz1 hz2 h0
  have e1 : (a : Int) / 65536 = (Q : Int) := by omega
  have e2 : (a : Int) % 65536 = (M : Int) := by omega
  have b1 : (a : Int) ≤ 1099511627776 := by omega
  clear hg hb hQ hM hL
  go_enter Tryd.func40, Tryd.ntmps40
  go_wp2_with (first | (go_at_call 50; refine (in_any _ _).mono ?_; rintro e w' ⟨rfl, rfl⟩) | (at_builtin; refine wpList_append_own _ rfl _ _ 52 rfl w'.heap.size 5 i0 (.int .u8 0) 1 1 Tryd.underlying52 HI.out HI0.out HI1.out HI2.out rfl (by decide) _ 0 [] rfl (World.ownsRow_nil _ _ _ _) ⟨w'.heap.size, 0, none⟩ 1 1 [.int .u8 45] rfl rfl ?c1 ?c2 ?c3 ?c4 ?c5 ?_))
  case c1 =>
    intro j u hj
    match j, hj with
    | 0, hj => simp at hj; subst hj; simp [Addr.add]
  case c2 => intro u hu; simp at hu; subst hu; rfl
  case c3 => unfold maxLen; omega
  case c4 => omega
  case c5 => simp
  intro v0 w0 hown0 hgrow0 _
  have HB0 := hide (show Below w'.heap.size w' w0 from ((Below.refl _ _).alloc (Nat.le_refl _) _).grown hgrow0 (by simp) (fun k hk => by simp [Value.ownBlock] at hk))
  have HO0 := hide (show w0.ownsRow w'.heap.size 5 1 v0 1 (([45] : List UInt8).map bcell) from hown0)
  clear hown0 hgrow0
  go_wp2_with fail
  refine (HA.out _ _ _ _ HO0.out (by omega) HB0.out).mono ?_
  rintro e w1 ⟨v1, rfl, hown1, hb1⟩
  have HO := hide hown1
  have HB := hide (HB0.out.trans hb1 : Below w'.heap.size w' w1)
  clear hown1 hb1
  go_wp2_with fail
  refine (fraction_any w'.heap.size _ M v1 _ w1 HM.out HO.out HB.out.size (by have := HD.out; omega)).mono ?_
  rintro e w2 ⟨v2, rfl, hown2, hb2⟩
  obtain ⟨g, cap, rfl, hO⟩ := own_shape (ys := 45 :: (decDigits Q ++ frac M)) (by simpa using hown2) (by have := HD.out; omega)
  have hcv := hO.text (by simp; omega)
  have HB2 := hide (HB.out.trans hb2)
  clear hown2 hb2 hO
  go_wp2
  go_ret2
  exact ⟨by rw [← HL.out]; simp, HB2.out⟩

/- any number -/
def textV (x : Int) : Value := if inB x then .tuple #[.string ⟨(textL x).toArray⟩, .bool true] else .tuple #[.string ⟨#[]⟩, .bool false]
theorem text_any (x : Int) (w : World) (hg : Glo w) :
    Calls Tryd.prog 40 #[.int .i64 x] w fun e w' => e = .returned (textV x) ∧ Below w.heap.size w w' := by
  unfold textV
  cases h : inB x
  · refine (text_out x w h).mono ?_
    rintro e w' ⟨rfl, rfl⟩
    exact ⟨rfl, Below.refl _ _⟩
  · rw [if_pos rfl]
    by_cases h0 : x < 0
    · obtain ⟨a, rfl⟩ : ∃ a : Nat, x = -(a : Int) := ⟨x.natAbs, by omega⟩
      refine text_neg a _ _ w hg h (by omega) rfl rfl _ ?_
      unfold textL
      rw [if_pos h0, Int.natAbs_neg, Int.natAbs_natCast]
      rfl
    · obtain ⟨a, rfl⟩ : ∃ a : Nat, x = (a : Int) := ⟨x.natAbs, by omega⟩
      refine text_pos a _ _ w hg h rfl rfl _ ?_
      unfold textL
      rw [if_neg h0, Int.natAbs_natCast]
      rfl
end Go.Proofs.YtlnkddmpcicejaaDoor.D2
/-
  What the reference's Decimal (chapter 2) answers: a number from 0 on in digits.
-/
namespace Go.Proofs.YtlnkddmpcicejaaDoor.D2
set_option maxRecDepth 8000
open Go.RowKit

def decF : Nat → Nat → List UInt8
  | 0, n => [UInt8.ofNat (48 + n % 10)]
  | f + 1, n => if n < 10 then [UInt8.ofNat (48 + n)] else decF f (n / 10) ++ [UInt8.ofNat (48 + n % 10)]

/- string([]byte{c}): the one byte that was laid -/
theorem one_byte (w : World) (c : UInt8) (x : Int) (hx : (c.toNat : Int) = x) :
    (convert 52 9 (.slice (some ⟨w.heap.size, 0, none⟩) 1 1)).run Tryd.prog (w.alloc (.cells #[.int .u8 x] 5)) = .ok (.string ⟨#[c]⟩) (w.alloc (.cells #[.int .u8 x] 5)) := by
  subst hx
  refine run_convert_bytes_back (P := Tryd.prog) (w.alloc (.cells #[.int .u8 (c.toNat : Int)] 5)) 52 9 5 ⟨w.heap.size, 0, none⟩ 1 [c] Tryd.underlying52 Tryd.underlying5 Tryd.underlying9 ?_
  intro k hk
  obtain rfl : k = 0 := by simp at hk; omega
  simp [Addr.add]
theorem one_at (w : World) (g : Nat) (c : UInt8) (x : Int) (hx : (c.toNat : Int) = x) (hc : w.cell? ⟨g, 0, none⟩ = some (.int .u8 x)) :
    (convert 52 9 (.slice (some ⟨g, 0, none⟩) 1 1)).run Tryd.prog w = .ok (.string ⟨#[c]⟩) w := by
  subst hx
  refine run_convert_bytes_back (P := Tryd.prog) w 52 9 5 ⟨g, 0, none⟩ 1 [c] Tryd.underlying52 Tryd.underlying5 Tryd.underlying9 ?_
  intro k hk
  obtain rfl : k = 0 := by simp at hk; omega
  simpa [Addr.add] using hc
theorem one_after {w w1 : World} {x : Int} {c : UInt8} (hx : (c.toNat : Int) = x) (hb : Below (w.alloc (.cells #[.int .u8 x] 5)).drew.heap.size (w.alloc (.cells #[.int .u8 x] 5)).drew w1) :
    (convert 52 9 (.slice (some ⟨w.heap.size, 0, none⟩) 1 1)).run Tryd.prog w1 = .ok (.string ⟨#[c]⟩) w1 := by
  refine one_at w1 w.heap.size c x hx ?_
  rw [hb.cell (p := ⟨w.heap.size, 0, none⟩) (by simp)]
  simp
theorem digit_nat (n : Nat) (h : n < 10) : ((UInt8.ofNat (48 + n)).toNat : Int) = 48 + (n : Int) := by
  have : (UInt8.ofNat (48 + n)).toNat = 48 + n := by
    rw [UInt8.toNat_ofNat']
    omega
  omega

theorem bl1 {w w1 : World} (hb : Below w.drew.heap.size w.drew w1) (o : Obj) : Below w.heap.size w (w1.alloc o) :=
  (show Below w.heap.size w w1 from ⟨hb.os, hb.tape, hb.output, hb.size, hb.block⟩).alloc hb.size o
theorem bl2 {w w1 : World} {o : Obj} (hb : Below (w.alloc o).drew.heap.size (w.alloc o).drew w1) : Below w.heap.size w w1 := by
  have h1 : Below w.heap.size w (w.alloc o).drew := ((Below.refl _ _).alloc (Nat.le_refl _) _).drew
  exact h1.trans (hb.mono (by simp))
theorem tens (n : Nat) (h : n ≤ 9223372036854775807) : (n : Int).tdiv 10 = ((n / 10 : Nat) : Int) ∧ (n : Int).tmod 10 = ((n % 10 : Nat) : Int) ∧ IntKind.i64.wrap ((n / 10 : Nat) : Int) = ((n / 10 : Nat) : Int) := by
  refine ⟨?_, ?_, by rw [IntKind.wrap_i64]; omega⟩
  · rw [Int.tdiv_eq_ediv_of_nonneg (by omega)]; omega
  · rw [Int.tmod_eq_emod_of_nonneg (by omega)]; omega

theorem decF_len (f n : Nat) : (decF f n).length ≤ f + 1 := by
  induction f generalizing n with
  | zero => simp [decF]
  | succ f ih =>
    unfold decF
    split
    · simp
    · have := ih (n / 10)
      simp
      omega

end Go.Proofs.YtlnkddmpcicejaaDoor.D2
/-
  What the reference's Text (chapter 2) answers.
-/
namespace Go.Proofs.YtlnkddmpcicejaaDoor.D2
set_option maxRecDepth 8000
open Go.RowKit Go.Lib

theorem decF_eq (f n : Nat) (h : n < 10 ^ (f + 1)) : decF f n = decDigits n := by
  induction f generalizing n with
  | zero =>
    have hn : n < 10 := by simpa using h
    rw [decDigits_one hn]
    unfold decF
    rw [Nat.mod_eq_of_lt hn]
  | succ f ih =>
    by_cases hn : n < 10
    · rw [decDigits_one hn]; unfold decF; rw [if_pos hn]
    · rw [decF, if_neg hn, ih (n / 10) (by rw [Nat.pow_succ] at h; omega)]
      exact (show decDigits n = _ by rw [decDigits, dif_neg hn]).symm
end Go.Proofs.YtlnkddmpcicejaaDoor.D2
/-
  What a row's list says of one variable on it.
-/
namespace Go.Proofs.YtlnkddmpcicejaaDoor

theorem laid_at {P : Program} {w : World} : ∀ {l : List (String × DataW Unit)} {ps : List MemPlace}, DataW.LaidVars P w l ps → ∀ {n : String} {d : DataW Unit}, (n, d) ∈ l →
    ∃ g t cs fuel p, P.globalNamed n = some g ∧ (P.globals[g]?).map (·.type) = some t ∧ w.var? P n = some cs ∧ DataW.trod (fun _ => ()) P w 0 (fun _ => true) false fuel t cs.toList = some (d, p)
  | (_, _) :: _, _, ⟨g, t, cs, fuel, p, _, h1, h2, h3, h4, h5, _⟩, n, d, hm => by
    rcases List.mem_cons.1 hm with e | e
    · cases e
      exact ⟨g, t, cs, fuel, p, h1, h2, h3, h4⟩
    · exact laid_at h5 e
theorem tab_at {P : Program} {w : World} {l : List (String × DataW Unit)} (h : laidMet P l w) {name : String} {k : IntKind} {zs : List Int} (hm : (name, Lib.tabData k zs) ∈ l) {g : Nat} {t e : TypeId} {n : Nat}
    (hg : P.globalNamed name = some g) (hty : (P.globals[g]?).map (·.type) = some t) (ht : P.underlying t = some (.array n e)) (he : P.underlying e = some (.int k)) (hce : P.cellsOf e = 1) (hct : P.cellsOf t = n) : Lib.TabIs P w name k zs := by
  obtain ⟨ps, hl, _⟩ := h
  obtain ⟨g', t', cs, fuel, p, h1, h2, h3, h4⟩ := laid_at hl hm
  obtain rfl := Option.some.inj (hg.symm.trans h1)
  obtain rfl := Option.some.inj (hty.symm.trans h2)
  unfold Lib.TabIs
  rw [h3, ← Lib.cells_of_tab ht he hce hct h4]
end Go.Proofs.YtlnkddmpcicejaaDoor
/-
  What the library's variables hold when a law of chapter 5 begins: off the row's list, and off the world's shape.
-/
namespace Go.Proofs.YtlnkddmpcicejaaDoor
open Go.RowKit Go.Lib
set_option linter.unusedVariables false

theorem glo_of {W : World} (h : laidMetH Tryd.prog Rows.outBeginsRow.laid W) (hs : W.ShapedOpen Tryd.prog) : D2.Glo W := by
  refine ⟨?_⟩
  rw [MakeChecks.laidMetH_plain _ _ _ (by kernel_rfl)] at h
  have e : (Rows.laid_internal_strconv_uint64pow10 : DataW Unit) = tabData .u64 pow10Tab := by kernel_rfl
  exact tab_at h (by rw [← e]; simp [Rows.outBeginsRow]) laysM176.m17 (by kernel_rfl) Tryd.underlying92 Tryd.underlying81 (by kernel_rfl) (by kernel_rfl)
end Go.Proofs.YtlnkddmpcicejaaDoor
