/-
  Joined: O5Esc, O5Quo, O5Dig, O5Nam, O5Int.
-/
import Derived.Test.YtalmcdbdibpgkaaGreatDoorBA
import Derived.Deep.CutRange
import Derived.Deep.RegionHeld3
import Derived.Deep.AppendLies
import Derived.Deep.Draws
import Derived.Deep.QuietTactic
import Derived.BigQuiet
/-
  What the reference's escaped (chapter 5) answers.
-/
namespace Go.Proofs.YtalmcdbdibpgkaaGreatDoor
open Go.RowKit

/- one byte by a letter: its number -/
def escL (c : Nat) : Option Nat :=
  if c = 110 then some 10 else if c = 114 then some 13 else if c = 116 then some 9 else if c = 98 then some 8 else if c = 102 then some 12 else if c = 40 ∨ c = 41 ∨ c = 92 then some c else none
def isOct (c : Nat) : Bool := decide (48 ≤ c ∧ c ≤ 55)
/- digits ahead of a place: all right, and their number -/
def octR (l : List UInt8) : Nat → Option Nat
  | 0 => some 0
  | k + 1 => match octR l k with
    | none => none
    | some n => match l[k]? with
      | none => none
      | some c => if isOct c.toNat then some (n * 8 + (c.toNat - 48)) else none
/- what stands behind a \ : the byte, and how many bytes it takes -/
def escV (l : List UInt8) : Option (Nat × Nat) :=
  match l with
  | [] => none
  | c :: _ => match escL c.toNat with
    | some x => some (x, 1)
    | none => match octR l 3 with
      | some n => if n < 256 then some (n, 3) else none
      | none => none
theorem octR_lt (l : List UInt8) : ∀ k n, octR l k = some n → n < 8 ^ k := by
  intro k
  induction k with
  | zero => intro n h; simp [octR] at h; omega
  | succ k ih =>
    intro n h
    unfold octR at h
    cases hk : octR l k with
    | none => rw [hk] at h; simp at h
    | some m =>
      rw [hk] at h
      simp only at h
      cases hc : l[k]? with
      | none => rw [hc] at h; simp at h
      | some c =>
        rw [hc] at h
        simp only at h
        split at h
        · rename_i ho
          have := ih m hk
          unfold isOct at ho
          simp at ho h
          rw [Nat.pow_succ]
          omega
        · simp at h
theorem octR_none (l : List UInt8) (k j : Nat) (h : octR l k = none) (hj : k ≤ j) : octR l j = none := by
  induction j with
  | zero => obtain rfl : k = 0 := by omega
            exact h
  | succ j ih =>
    by_cases e : k = j + 1
    · rw [← e]; exact h
    · unfold octR; rw [ih (by omega)]

def EscOk (R : Option (Nat × Nat)) (at_ size : Nat) (x p : Int) : Prop := ∀ y n, R = some (y, n) → x = (y : Int) ∧ p = ((at_ + n : Nat) : Int) ∧ y < 256 ∧ 1 ≤ n ∧ at_ + n ≤ size
theorem EscOk.none (at_ size : Nat) (x p : Int) : EscOk none at_ size x p := fun y n h => by cases h
theorem EscOk.mk {at_ size y n : Nat} {x p : Int} (h1 : x = (y : Int)) (h2 : p = ((at_ + n : Nat) : Int)) (h3 : y < 256 ∧ 1 ≤ n ∧ at_ + n ≤ size) : EscOk (some (y, n)) at_ size x p := by
  intro y' n' h
  simp only [Option.some.injEq, Prod.mk.injEq] at h
  obtain ⟨rfl, rfl⟩ := h
  exact ⟨h1, h2, h3⟩
set_option maxRecDepth 100000 in
set_option maxHeartbeats 1000000 in
theorem escaped_core (s : ByteArray) (at_ : Nat) (w : World) (hs : s.size ≤ 16777216) (ha : at_ ≤ s.size) (R : Option (Nat × Nat)) (hR : escV (s.data.toList.drop at_) = R) :
    Calls Tryz.prog 84 #[.string s, .int .i64 at_] w fun e w' => (∃ x p, e = .returned (.tuple #[.int .u8 x, .int .i64 p, .bool R.isSome]) ∧ EscOk R at_ s.size x p) ∧ w' = w := by
  have hs' : (s.size : Int) ≤ 16777216 := by omega
  have ha' : (at_ : Int) ≤ (s.size : Int) := by omega
  by_cases hlt : at_ < s.size
  · have hlt' : (at_ : Int) < (s.size : Int) := by omega
    have hge : decide (s.size ≤ at_) = false := by simp; omega
    have hd := drop_at s at_ hlt
    obtain ⟨c, hc⟩ : ∃ c, s[at_].toNat = c := ⟨_, rfl⟩
    have hcl : c < 256 := by rw [← hc]; exact s[at_].toNat_lt
    have hRe : R = match escL c with
        | some x => some (x, 1)
        | none => match octR (s.data.toList.drop at_) 3 with
          | some n => if n < 256 then some (n, 3) else none
          | none => none := by
      rw [← hR]
      unfold escV
      rw [hd]
      simp only [hc]
    have hci : (s[at_].toNat : Int) = (c : Int) := by omega
    by_cases hin : c = 110 ∨ c = 114 ∨ c = 116 ∨ c = 98 ∨ c = 102 ∨ c = 40 ∨ c = 41 ∨ c = 92
    · clear hd hR hge
      rcases hin with rfl | rfl | rfl | rfl | rfl | rfl | rfl | rfl
      all_goals
        simp only [escL] at hRe
        subst hRe
        have hge : decide (s.size ≤ at_) = false := by simp; omega
        clear hc hcl hs ha
        go_enter Tryz.func84, Tryz.ntmps84
        go_wp2
        go_ret3
        exact ⟨⟨_, _, rfl, EscOk.mk rfl (by omega) (by omega)⟩, rfl⟩
    · have he : escL c = none := by
        unfold escL
        rw [if_neg (by omega), if_neg (by omega), if_neg (by omega), if_neg (by omega), if_neg (by omega), if_neg (by omega)]
      rw [he] at hRe
      simp only at hRe
      have n110 : ((c : Int) == 110) = false := by rw [beq_eq_false_iff_ne]; omega
      have n114 : ((c : Int) == 114) = false := by rw [beq_eq_false_iff_ne]; omega
      have n116 : ((c : Int) == 116) = false := by rw [beq_eq_false_iff_ne]; omega
      have n98 : ((c : Int) == 98) = false := by rw [beq_eq_false_iff_ne]; omega
      have n102 : ((c : Int) == 102) = false := by rw [beq_eq_false_iff_ne]; omega
      have n40 : ((c : Int) == 40) = false := by rw [beq_eq_false_iff_ne]; omega
      have n41 : ((c : Int) == 41) = false := by rw [beq_eq_false_iff_ne]; omega
      have n92 : ((c : Int) == 92) = false := by rw [beq_eq_false_iff_ne]; omega
      have HRE := hide hRe
      clear hin he hRe hR hd hc hcl
      go_enter Tryz.func84, Tryz.ntmps84
      go_wp2_with fail
      go_loop [7, 8] (fun vn vk => ∃ n k : Nat, vn = .int .i64 n ∧ vk = .int .i64 k ∧ Hid (k ≤ 3 ∧ octR (s.data.toList.drop at_) k = some n ∧ (0 < k → at_ + k ≤ s.size))) (fun _ vk => 3 - (intOf vk).toNat)
      case atStart => exact ⟨0, 0, rfl, rfl, hide ⟨by omega, rfl, fun h => by omega⟩⟩
      case round =>
        obtain ⟨n, k, rfl, rfl, HK⟩ := hrel
        obtain ⟨k1, k2, k3⟩ := HK.out
        clear HK
        have hn := octR_lt _ _ _ k2
        by_cases hk : k < 3
        · have hk' : (k : Int) < 3 := by omega
          have nb : (n : Int) ≤ 63 := by
            have : 8 ^ k ≤ 8 ^ 2 := Nat.pow_le_pow_right (by decide) (by omega)
            have e : (8 : Nat) ^ 2 = 64 := rfl
            omega
          by_cases hi : at_ + k < s.size
          · have hi' : (at_ : Int) + (k : Int) < (s.size : Int) := by omega
            have hge2 : decide ((s.size : Int) ≤ (at_ : Int) + (k : Int)) = false := by simp; omega
            have hg : (s.data.toList.drop at_)[k]? = some s[at_ + k] := by rw [List.getElem?_drop]; exact get_at s _ hi
            have hnx : octR (s.data.toList.drop at_) (k + 1) = if isOct s[at_ + k].toNat then some (n * 8 + (s[at_ + k].toNat - 48)) else none := by
              rw [octR, k2]
              simp only [hg]
            by_cases ho : isOct s[at_ + k].toNat = true
            · rw [if_pos ho] at hnx
              have HNX := hide hnx
              unfold isOct at ho
              simp at ho
              have o1 : decide ((s[at_ + k].toNat : Int) < 48) = false := by simp; omega
              have o2 : decide ((55 : Int) < (s[at_ + k].toNat : Int)) = false := by simp; omega
              have o3 : (48 : Int) ≤ (s[at_ + k].toNat : Int) := by omega
              have o4 : (s[at_ + k].toNat : Int) ≤ 55 := by omega
              clear hnx ho hg k2 hn
              go_wp2
              go_round
              case rel => exact ⟨n * 8 + (s[at_ + k].toNat - 48), k + 1, by congr 1; omega, by go_num, hide ⟨by omega, HNX.out, fun _ => by omega⟩⟩
              case measure => simp [intOf]; omega
            · rw [if_neg ho] at hnx
              obtain rfl : R = none := by rw [HRE.out, octR_none _ _ 3 hnx (by omega)]
              unfold isOct at ho
              simp at ho
              clear hnx hg k2 hn HRE
              by_cases o0 : s[at_ + k].toNat < 48
              · have o1 : decide ((s[at_ + k].toNat : Int) < 48) = true := by simp; omega
                clear ho o0
                go_wp2
                go_ret3
                exact ⟨⟨_, _, rfl, EscOk.none _ _ _ _⟩, rfl⟩
              · have o1 : decide ((s[at_ + k].toNat : Int) < 48) = false := by simp; omega
                have o2 : decide ((55 : Int) < (s[at_ + k].toNat : Int)) = true := by simp; omega
                clear ho o0
                go_wp2
                go_ret3
                exact ⟨⟨_, _, rfl, EscOk.none _ _ _ _⟩, rfl⟩
          · have hge2 : decide ((s.size : Int) ≤ (at_ : Int) + (k : Int)) = true := by simp; omega
            obtain rfl : R = none := by
              have : octR (s.data.toList.drop at_) (k + 1) = none := by
                rw [octR, k2]
                simp only
                rw [List.getElem?_eq_none (by rw [List.length_drop, ← Lib.size_eq]; omega)]
              rw [HRE.out, octR_none _ _ 3 this (by omega)]
            clear k2 hn HRE
            go_wp2
            go_ret3
            exact ⟨⟨_, _, rfl, EscOk.none _ _ _ _⟩, rfl⟩
        · obtain rfl : k = 3 := by omega
          have nb : (n : Int) ≤ 511 := by have e : (8 : Nat) ^ 3 = 512 := rfl; omega
          have hre := HRE.out
          rw [k2] at hre
          simp only at hre
          have hsz := k3 (by omega)
          clear k2 hn HRE k3
          by_cases hb : n < 256
          · rw [if_pos hb] at hre
            subst hre
            have b1 : decide ((n : Int) < 256) = true := by simp; omega
            have b2 : IntKind.u8.wrap (n : Int) = (n : Int) := by rw [IntKind.wrap_u8]; omega
            have HB := hide hb
            clear hb
            go_wp2
            go_ret3
            exact ⟨⟨_, _, rfl, EscOk.mk rfl (by omega) ⟨HB.out, by omega, hsz⟩⟩, rfl⟩
          · rw [if_neg hb] at hre
            subst hre
            have b1 : decide ((n : Int) < 256) = false := by simp; omega
            clear hb
            go_wp2
            go_ret3
            exact ⟨⟨_, _, rfl, EscOk.none _ _ _ _⟩, rfl⟩
  · have hge : decide ((s.size : Int) ≤ (at_ : Int)) = true := by simp; omega
    obtain rfl : R = none := by rw [← hR, List.drop_eq_nil_of_le (by rw [← Lib.size_eq]; omega)]; rfl
    clear hR
    go_enter Tryz.func84, Tryz.ntmps84
    go_wp2
    go_ret3
    exact ⟨⟨_, _, rfl, EscOk.none _ _ _ _⟩, rfl⟩
end Go.Proofs.YtalmcdbdibpgkaaGreatDoor
/-
  What the reference's quoted (chapter 5) answers.
-/
namespace Go.Proofs.YtalmcdbdibpgkaaGreatDoor
open Go.RowKit

def qR : Nat → List UInt8 → Nat → Nat → List UInt8 → Option (List UInt8 × Nat)
  | 0, _, _, _, _ => none
  | _ + 1, [], _, _, _ => none
  | f + 1, c :: l, o, p, acc =>
    if c.toNat = 40 then qR f l (o + 1) (p + 1) (acc ++ [c])
    else if c.toNat = 41 then (if o = 0 then some (acc, p + 1) else qR f l (o - 1) (p + 1) (acc ++ [c]))
    else if c.toNat = 92 then (match escV l with
      | none => none
      | some (x, n) => qR f (l.drop n) o (p + 1 + n) (acc ++ [UInt8.ofNat x]))
    else qR f l o (p + 1) (acc ++ [c])
theorem qR_fuel : ∀ (f g : Nat) (l : List UInt8) (o p : Nat) (acc : List UInt8), l.length ≤ f → l.length ≤ g → qR f l o p acc = qR g l o p acc := by
  intro f
  induction f with
  | zero =>
    intro g l o p acc h1 _
    obtain rfl : l = [] := List.eq_nil_of_length_eq_zero (by omega)
    cases g <;> simp [qR]
  | succ f ih =>
    intro g l o p acc h1 h2
    match l, g with
    | [], 0 => simp [qR]
    | [], g + 1 => simp [qR]
    | c :: l, 0 => simp at h2
    | c :: l, g + 1 =>
      simp only [List.length_cons] at h1 h2
      unfold qR
      rw [ih g l (o + 1) (p + 1) _ (by omega) (by omega), ih g l (o - 1) (p + 1) _ (by omega) (by omega), ih g l o (p + 1) _ (by omega) (by omega)]
      cases escV l with
      | none => rfl
      | some q =>
        obtain ⟨x, n⟩ := q
        simp only
        rw [ih g (l.drop n) o (p + 1 + n) _ (by rw [List.length_drop]; omega) (by rw [List.length_drop]; omega)]
theorem qR_le : ∀ (f : Nat) (l : List UInt8) (o p : Nat) (acc bs : List UInt8) (q : Nat), l.length ≤ f → qR f l o p acc = some (bs, q) → p < q ∧ (bs.length ≤ acc.length + (q - p)) := by
  intro f
  induction f with
  | zero => intro l o p acc bs q _ h; simp [qR] at h
  | succ f ih =>
    intro l o p acc bs q hl h
    match l with
    | [] => simp [qR] at h
    | c :: l =>
      simp only [List.length_cons] at hl
      unfold qR at h
      split at h
      · have := ih _ _ _ _ _ _ (by omega) h
        simp at this; omega
      split at h
      · split at h
        · simp at h; obtain ⟨rfl, rfl⟩ := h; omega
        · have := ih _ _ _ _ _ _ (by omega) h
          simp at this; omega
      split at h
      · cases he : escV l with
        | none => rw [he] at h; simp at h
        | some q' =>
          obtain ⟨x, n⟩ := q'
          rw [he] at h
          simp only at h
          have := ih _ _ _ _ _ _ (by rw [List.length_drop]; omega) h
          simp at this; omega
      · have := ih _ _ _ _ _ _ (by omega) h
        simp at this; omega
def Qu (l : List UInt8) (o p : Nat) (acc : List UInt8) (R : Option (List UInt8 × Nat)) : Prop := qR l.length l o p acc = R
def quoV (l : List UInt8) (p : Nat) : Option (List UInt8 × Nat) := qR l.length l 0 p []
theorem Qu.next {c : UInt8} {l : List UInt8} {o p : Nat} {acc : List UInt8} {R : Option (List UInt8 × Nat)} (h : Qu (c :: l) o p acc R) :
    (c.toNat = 40 → Qu l (o + 1) (p + 1) (acc ++ [c]) R) ∧ (c.toNat = 41 → o = 0 → R = some (acc, p + 1)) ∧ (c.toNat = 41 → o ≠ 0 → Qu l (o - 1) (p + 1) (acc ++ [c]) R) ∧ (c.toNat = 92 → escV l = none → R = none) ∧
    (c.toNat = 92 → ∀ x n, escV l = some (x, n) → Qu (l.drop n) o (p + 1 + n) (acc ++ [UInt8.ofNat x]) R) ∧ (c.toNat ≠ 40 → c.toNat ≠ 41 → c.toNat ≠ 92 → Qu l o (p + 1) (acc ++ [c]) R) := by
  unfold Qu at h ⊢
  rw [List.length_cons, qR] at h
  refine ⟨fun e => ?_, fun e e0 => ?_, fun e e0 => ?_, fun e e0 => ?_, fun e x n e0 => ?_, fun e1 e2 e3 => ?_⟩
  · rwa [if_pos e] at h
  · rw [if_neg (by omega), if_pos e, if_pos e0] at h; exact h.symm
  · rwa [if_neg (by omega), if_pos e, if_neg e0] at h
  · rw [if_neg (by omega), if_neg (by omega), if_pos e, e0] at h; exact h.symm
  · rw [if_neg (by omega), if_neg (by omega), if_pos e, e0] at h
    simp only at h
    rw [← h]
    exact qR_fuel _ _ _ _ _ _ (Nat.le_refl _) (by rw [List.length_drop]; omega)
  · rwa [if_neg e1, if_neg e2, if_neg e3] at h
theorem ofNat_cell (y : Nat) (h : y < 256) : Value.int .u8 (y : Int) = bcell (UInt8.ofNat y) := by
  unfold bcell
  rw [UInt8.toNat_ofNat']
  congr 1
  omega
def triV (R : Option (List UInt8 × Nat)) : Value := match R with
  | some (bs, p) => .tuple #[.string ⟨bs.toArray⟩, .int .i64 p, .bool true]
  | none => .tuple #[.string ⟨#[]⟩, .int .i64 0, .bool false]

set_option maxRecDepth 100000 in
set_option maxHeartbeats 2000000 in
theorem quoted_core (s : ByteArray) (at_ : Nat) (w : World) (hs : s.size ≤ 16777216) (ha : at_ ≤ s.size) (R : Option (List UInt8 × Nat)) (hR : quoV (s.data.toList.drop at_) at_ = R) :
    Calls Tryz.prog 51 #[.string s, .int .i64 at_] w fun e w' => e = .returned (triV R) ∧ Below w.heap.size w w' := by
  have hs' : (s.size : Int) ≤ 16777216 := by omega
  have HR := hide (show Qu (s.data.toList.drop at_) 0 at_ [] R from hR)
  have HS := hide hs
  obtain ⟨i0, hi, hz0, hz1, hz2⟩ := info_parts info_u8
  have HI := hide hi
  have HI0 := hide hz0
  have HI1 := hide hz1
  have HI2 := hide hz2
  clear hi hz0 hz1 hz2 hR hs
  go_enter Tryz.func51, Tryz.ntmps51
  go_wp2_with fail
  go_loopw [1, 7, 8] (fun va vb vo wr => ∃ (k o : Nat) (acc : List UInt8), va = .int .i64 k ∧ vo = .int .i64 o ∧ Hid (k ≤ s.size ∧ o ≤ k ∧ acc.length ≤ k ∧ BRow wr w.heap.size vb acc ∧ Qu (s.data.toList.drop k) o k acc R ∧ Below w.heap.size w wr)) (fun va _ _ _ => s.size - (intOf va).toNat)
  case atStart => exact ⟨at_, 0, [], rfl, rfl, hide ⟨ha, by omega, by simp, BRow.nil _ _, HR.out, Below.refl _ _⟩⟩
  case round =>
    obtain ⟨k, o, acc, rfl, rfl, HK⟩ := hrel
    obtain ⟨k1, k0, k2, k3, k4, k5⟩ := HK.out
    clear HK HR
    have ob : (o : Int) ≤ (k : Int) := by omega
    by_cases hlt : k < s.size
    · have hlt' : (k : Int) < (s.size : Int) := by omega
      rw [drop_at s k hlt] at k4
      obtain ⟨q1, q2, q3, q4, q5, q6⟩ := k4.next
      have K2 := hide k2
      have K3 := hide k3
      have K5 := hide k5
      by_cases c1 : s[k].toNat = 40
      · have Q := hide (q1 c1)
        have e1 : ((s[k].toNat : Int) == 40) = true := by rw [beq_iff_eq]; omega
        clear q1 q2 q3 q4 q5 q6 c1 k2 k3 k4 k5
        go_wp2_with (first
          | (at_builtin; refine wpList_append_own _ rfl _ _ 43 rfl w.heap.size 5 i0 (.int .u8 0) 1 1 Tryz.underlying43 HI.out HI0.out HI1.out HI2.out rfl (by decide) _ _ _ rfl (World.ownsRow.alloc K3.out _) ⟨_, 0, none⟩ 1 1 [.int .u8 (s[k].toNat : Int)] rfl rfl ?d1 ?d2 ?d3 ?d4 ?d5 ?_))
        case d1 =>
          intro j u hj
          match j, hj with
          | 0, hj => simp at hj; subst hj; simp [Addr.add]
        case d2 => intro u hu; simp at hu; subst hu; rfl
        case d3 => have := K2.out; have := HS.out; unfold maxLen; omega
        case d4 => have := K2.out; have := HS.out; omega
        case d5 => simp; have := K5.out.size; omega
        intro v2 w2 hown2 hgrow2 _
        have HB2 := hide (show Below w.heap.size w w2 from (K5.out.alloc K5.out.size _).grown hgrow2 (by simp; have := K5.out.size; omega) (fun k hk => (World.ownsRow.lt K3.out k hk).1))
        have HO2 := hide (show BRow w2 w.heap.size v2 (acc ++ [s[k]]) by
          unfold BRow
          rw [List.map_append, List.length_append]
          exact hown2)
        clear hown2 hgrow2
        go_wp2
        go_roundw
        case rel => exact ⟨k + 1, o + 1, acc ++ [s[k]], by go_num, by go_num, hide ⟨by omega, by omega, by have := K2.out; simp; omega, HO2.out, Q.out, HB2.out⟩⟩
        case measure => simp [intOf]; omega
      have e1 : ((s[k].toNat : Int) == 40) = false := by rw [beq_eq_false_iff_ne]; omega
      by_cases c2 : s[k].toNat = 41
      · have e2 : ((s[k].toNat : Int) == 41) = true := by rw [beq_iff_eq]; omega
        by_cases o0 : o = 0
        · obtain rfl := q2 c2 o0
          subst o0
          have hcv := k3.text
          clear q1 q3 q4 q5 q6 c1 c2 k2 k3 k4 k5 q2
          go_wp2
          go_ret3
          exact ⟨by first | rfl | go_num, K5.out⟩
        · have Q := hide (q3 c2 o0)
          have o1 : ((o : Int) == 0) = false := by rw [beq_eq_false_iff_ne]; omega
          have o2 : (1 : Int) ≤ (o : Int) := by omega
          clear q1 q2 q3 q4 q5 q6 c1 c2 k2 k3 k4 k5
          go_wp2_with (first
            | (at_builtin; refine wpList_append_own _ rfl _ _ 43 rfl w.heap.size 5 i0 (.int .u8 0) 1 1 Tryz.underlying43 HI.out HI0.out HI1.out HI2.out rfl (by decide) _ _ _ rfl (World.ownsRow.alloc K3.out _) ⟨_, 0, none⟩ 1 1 [.int .u8 (s[k].toNat : Int)] rfl rfl ?d1 ?d2 ?d3 ?d4 ?d5 ?_))
          case d1 =>
            intro j u hj
            match j, hj with
            | 0, hj => simp at hj; subst hj; simp [Addr.add]
          case d2 => intro u hu; simp at hu; subst hu; rfl
          case d3 => have := K2.out; have := HS.out; unfold maxLen; omega
          case d4 => have := K2.out; have := HS.out; omega
          case d5 => simp; have := K5.out.size; omega
          intro v2 w2 hown2 hgrow2 _
          have HB2 := hide (show Below w.heap.size w w2 from (K5.out.alloc K5.out.size _).grown hgrow2 (by simp; have := K5.out.size; omega) (fun k hk => (World.ownsRow.lt K3.out k hk).1))
          have HO2 := hide (show BRow w2 w.heap.size v2 (acc ++ [s[k]]) by
            unfold BRow
            rw [List.map_append, List.length_append]
            exact hown2)
          clear hown2 hgrow2
          go_wp2
          go_roundw
          case rel => exact ⟨k + 1, o - 1, acc ++ [s[k]], by go_num, by go_num, hide ⟨by omega, by omega, by have := K2.out; simp; omega, HO2.out, Q.out, HB2.out⟩⟩
          case measure => simp [intOf]; omega
      have e2 : ((s[k].toNat : Int) == 41) = false := by rw [beq_eq_false_iff_ne]; omega
      by_cases c3 : s[k].toNat = 92
      · have e3 : ((s[k].toNat : Int) == 92) = true := by rw [beq_iff_eq]; omega
        cases hE : escV (s.data.toList.drop (k + 1)) with
        | none =>
          obtain rfl := q4 c3 hE
          have CE := hide (fun w => escaped_core s (k + 1) w HS.out (by omega) none hE)
          clear q1 q2 q3 q4 q5 q6 c1 c2 c3 k2 k3 k4 k5 hE
          go_wp2_with (go_at_call 84; refine (CE.out _).mono ?_; rintro e w1 ⟨⟨x, p, rfl, hx⟩, rfl⟩)
          go_ret3
          exact ⟨rfl, K5.out⟩
        | some q =>
          obtain ⟨y, n⟩ := q
          have Q := hide (q5 c3 y n hE)
          have CE := hide (fun w => escaped_core s (k + 1) w HS.out (by omega) (some (y, n)) hE)
          have hdd : (s.data.toList.drop (k + 1)).drop n = s.data.toList.drop (k + 1 + n) := by rw [List.drop_drop]
          rw [hdd] at Q
          clear q1 q2 q3 q4 q5 q6 c1 c2 c3 k2 k3 k4 k5 hE hdd
          go_wp2_with (first
            | (go_at_call 84; refine (CE.out _).mono ?_; rintro e w1 ⟨⟨x, p, rfl, hx⟩, rfl⟩; obtain ⟨rfl, rfl, hy, hn1, hn2⟩ := hx y n rfl; have HY := hide hy; have HN := hide hn2; clear hx hy hn2)
            | (at_builtin; refine wpList_append_own _ rfl _ _ 43 rfl w.heap.size 5 i0 (.int .u8 0) 1 1 Tryz.underlying43 HI.out HI0.out HI1.out HI2.out rfl (by decide) _ _ _ rfl (World.ownsRow.alloc K3.out _) ⟨_, 0, none⟩ 1 1 [.int .u8 (y : Int)] rfl rfl ?d1 ?d2 ?d3 ?d4 ?d5 ?_))
          case d1 =>
            intro j u hj
            match j, hj with
            | 0, hj => simp at hj; subst hj; simp [Addr.add]
          case d2 => intro u hu; simp at hu; subst hu; rfl
          case d3 => have := K2.out; have := HS.out; unfold maxLen; omega
          case d4 => have := K2.out; have := HS.out; omega
          case d5 => simp; have := K5.out.size; omega
          intro v2 w2 hown2 hgrow2 _
          have HB2 := hide (show Below w.heap.size w w2 from (K5.out.alloc K5.out.size _).grown hgrow2 (by simp; have := K5.out.size; omega) (fun k hk => (World.ownsRow.lt K3.out k hk).1))
          have HO2 := hide (show BRow w2 w.heap.size v2 (acc ++ [UInt8.ofNat y]) by
            unfold BRow
            rw [List.map_append, List.length_append, List.map_cons, ← ofNat_cell y HY.out]
            exact hown2)
          clear hown2 hgrow2
          go_wp2
          go_roundw
          case rel => exact ⟨k + 1 + n, o, acc ++ [UInt8.ofNat y], rfl, rfl, hide ⟨HN.out, by omega, by have := K2.out; simp; omega, HO2.out, Q.out, HB2.out⟩⟩
          case measure => have := HN.out; simp [intOf]; omega
      · have e3 : ((s[k].toNat : Int) == 92) = false := by rw [beq_eq_false_iff_ne]; omega
        have Q := hide (q6 c1 c2 c3)
        clear q1 q2 q3 q4 q5 q6 c1 c2 c3 k2 k3 k4 k5
        go_wp2_with (first
          | (at_builtin; refine wpList_append_own _ rfl _ _ 43 rfl w.heap.size 5 i0 (.int .u8 0) 1 1 Tryz.underlying43 HI.out HI0.out HI1.out HI2.out rfl (by decide) _ _ _ rfl (World.ownsRow.alloc K3.out _) ⟨_, 0, none⟩ 1 1 [.int .u8 (s[k].toNat : Int)] rfl rfl ?d1 ?d2 ?d3 ?d4 ?d5 ?_))
        case d1 =>
          intro j u hj
          match j, hj with
          | 0, hj => simp at hj; subst hj; simp [Addr.add]
        case d2 => intro u hu; simp at hu; subst hu; rfl
        case d3 => have := K2.out; have := HS.out; unfold maxLen; omega
        case d4 => have := K2.out; have := HS.out; omega
        case d5 => simp; have := K5.out.size; omega
        intro v2 w2 hown2 hgrow2 _
        have HB2 := hide (show Below w.heap.size w w2 from (K5.out.alloc K5.out.size _).grown hgrow2 (by simp; have := K5.out.size; omega) (fun k hk => (World.ownsRow.lt K3.out k hk).1))
        have HO2 := hide (show BRow w2 w.heap.size v2 (acc ++ [s[k]]) by
          unfold BRow
          rw [List.map_append, List.length_append]
          exact hown2)
        clear hown2 hgrow2
        go_wp2
        go_roundw
        case rel => exact ⟨k + 1, o, acc ++ [s[k]], by go_num, rfl, hide ⟨by omega, by omega, by have := K2.out; simp; omega, HO2.out, Q.out, HB2.out⟩⟩
        case measure => simp [intOf]; omega
    · have hlt' : ¬ (k : Int) < (s.size : Int) := by omega
      obtain rfl : R = none := by
        rw [List.drop_eq_nil_of_le (by rw [← Lib.size_eq]; omega)] at k4
        exact k4.symm
      have K5 := hide k5
      clear k2 k3 k4 k5
      go_wp2
      go_ret3
      exact ⟨rfl, K5.out⟩
end Go.Proofs.YtalmcdbdibpgkaaGreatDoor
/-
  What the reference's digited (chapter 5) answers.
-/
namespace Go.Proofs.YtalmcdbdibpgkaaGreatDoor
open Go.RowKit

def hexI (x : Int) : Int := hexV x.toNat
theorem hexI_any (b : Nat) (w : World) (h : b < 256) :
    Calls Tryz.prog 82 #[.int .u8 b] w fun e w' => e = .returned (.int .i64 (hexI (b : Int))) ∧ w' = w := hex_any b w h
def byte2 (c d : UInt8) : UInt8 := UInt8.ofNat (hexV c.toNat * 16 + hexV d.toNat).toNat
def hexB (c : UInt8) : Bool := decide (0 ≤ hexV c.toNat)
def dR : Nat → List UInt8 → Nat → List UInt8 → Option (List UInt8 × Nat)
  | 0, _, _, _ => none
  | _ + 1, [], _, _ => none
  | f + 1, c :: l, p, acc =>
    if c.toNat = 62 then some (acc, p + 1)
    else match l with
      | [] => none
      | d :: l' => if hexB c && hexB d then dR f l' (p + 2) (acc ++ [byte2 c d]) else none
theorem dR_fuel : ∀ (f g : Nat) (l : List UInt8) (p : Nat) (acc : List UInt8), l.length ≤ f → l.length ≤ g → dR f l p acc = dR g l p acc := by
  intro f
  induction f with
  | zero =>
    intro g l p acc h1 _
    obtain rfl : l = [] := List.eq_nil_of_length_eq_zero (by omega)
    cases g <;> simp [dR]
  | succ f ih =>
    intro g l p acc h1 h2
    match l, g with
    | [], 0 => simp [dR]
    | [], g + 1 => simp [dR]
    | c :: l, 0 => simp at h2
    | c :: [], g + 1 => simp [dR]
    | c :: d :: l, g + 1 =>
      simp only [List.length_cons] at h1 h2
      unfold dR
      simp only
      rw [ih g l (p + 2) _ (by omega) (by omega)]
theorem dR_cons (f : Nat) (c : UInt8) (l : List UInt8) (p : Nat) (acc : List UInt8) : dR (f + 1) (c :: l) p acc = if c.toNat = 62 then some (acc, p + 1)
    else match l with
      | [] => none
      | d :: l' => if hexB c && hexB d then dR f l' (p + 2) (acc ++ [byte2 c d]) else none := by
  cases l <;> rfl
def Dg (l : List UInt8) (p : Nat) (acc : List UInt8) (R : Option (List UInt8 × Nat)) : Prop := dR l.length l p acc = R
def digV (l : List UInt8) (p : Nat) : Option (List UInt8 × Nat) := dR l.length l p []
theorem Dg.next {c : UInt8} {l : List UInt8} {p : Nat} {acc : List UInt8} {R : Option (List UInt8 × Nat)} (h : Dg (c :: l) p acc R) :
    (c.toNat = 62 → R = some (acc, p + 1)) ∧ (c.toNat ≠ 62 → l = [] → R = none) ∧ (c.toNat ≠ 62 → ∀ d l', l = d :: l' → (hexB c && hexB d) = false → R = none) ∧ (c.toNat ≠ 62 → ∀ d l', l = d :: l' → (hexB c && hexB d) = true → Dg l' (p + 2) (acc ++ [byte2 c d]) R) := by
  unfold Dg at h ⊢
  rw [List.length_cons, dR_cons] at h
  refine ⟨fun e => ?_, fun e e0 => ?_, fun e d l' e0 e1 => ?_, fun e d l' e0 e1 => ?_⟩
  · rw [if_pos e] at h; exact h.symm
  · subst e0; rw [if_neg e] at h; exact h.symm
  · subst e0; rw [if_neg e] at h; simp only [e1] at h; exact h.symm
  · subst e0
    rw [if_neg e] at h
    simp only [e1, if_true] at h
    rw [← h]
    exact dR_fuel _ _ _ _ _ (Nat.le_refl _) (by simp)

theorem news1 (w : World) (v : Value) (t : TypeId) : ∀ (j : Nat) (u : Value), [v][j]? = some u → (w.alloc (.cells #[v] t)).cell? ((⟨w.heap.size, 0, none⟩ : Addr).add j) = some u := by
  intro j u hj
  match j, hj with
  | 0, hj => simp at hj; subst hj; simp [Addr.add]
theorem ones1 (k : IntKind) (x : Int) : ∀ u ∈ [Value.int k x], u.oneCell' = true := by
  intro u hu
  simp at hu
  subst hu
  rfl
set_option maxRecDepth 100000 in
set_option maxHeartbeats 2000000 in
theorem digited_core (s : ByteArray) (at_ : Nat) (w : World) (hs : s.size ≤ 16777216) (ha : at_ ≤ s.size) (R : Option (List UInt8 × Nat)) (hR : digV (s.data.toList.drop at_) at_ = R) :
    Calls Tryz.prog 54 #[.string s, .int .i64 at_] w fun e w' => e = .returned (triV R) ∧ Below w.heap.size w w' := by
  have hs' : (s.size : Int) ≤ 16777216 := by omega
  have HR := hide (show Dg (s.data.toList.drop at_) at_ [] R from hR)
  have HS := hide hs
  obtain ⟨i0, hi, hz0, hz1, hz2⟩ := info_parts info_u8
  have HI := hide hi
  have HI0 := hide hz0
  have HI1 := hide hz1
  have HI2 := hide hz2
  clear hi hz0 hz1 hz2 hR hs
  go_enter Tryz.func54, Tryz.ntmps54
  go_wp2_with fail
  go_loopw [1, 7] (fun va vb wr => ∃ (k : Nat) (acc : List UInt8), va = .int .i64 k ∧ Hid (k ≤ s.size ∧ acc.length ≤ k ∧ BRow wr w.heap.size vb acc ∧ Dg (s.data.toList.drop k) k acc R ∧ Below w.heap.size w wr)) (fun va _ _ => s.size - (intOf va).toNat)
  case atStart => exact ⟨at_, [], rfl, hide ⟨ha, by simp, BRow.nil _ _, HR.out, Below.refl _ _⟩⟩
  case round =>
    obtain ⟨k, acc, rfl, HK⟩ := hrel
    obtain ⟨k1, k2, k3, k4, k5⟩ := HK.out
    clear HK HR
    by_cases hlt : k < s.size
    · have hlt' : (k : Int) < (s.size : Int) := by omega
      rw [drop_at s k hlt] at k4
      obtain ⟨q1, q2, q3, q4⟩ := k4.next
      have K2 := hide k2
      have K3 := hide k3
      have K5 := hide k5
      by_cases c1 : s[k].toNat = 62
      · have e1 : ((s[k].toNat : Int) == 62) = true := by rw [beq_iff_eq]; omega
        obtain rfl := q1 c1
        have hcv := k3.text
        clear q1 q2 q3 q4 c1 k2 k3 k4 k5
        go_wp2
        go_ret3
        exact ⟨by first | rfl | go_num, K5.out⟩
      have e1 : ((s[k].toNat : Int) == 62) = false := by rw [beq_eq_false_iff_ne]; omega
      by_cases c2 : k + 1 < s.size
      · have c2' : (k : Int) + 1 < (s.size : Int) := by omega
        have c3 : decide ((s.size : Int) ≤ (k : Int) + 1) = false := by simp; omega
        have hd := drop_at s (k + 1) c2
        obtain ⟨H1, hH1⟩ : ∃ H1, hexV s[k].toNat = H1 := ⟨_, rfl⟩
        obtain ⟨H2, hH2⟩ : ∃ H2, hexV s[k + 1].toNat = H2 := ⟨_, rfl⟩
        have f1 : hexI (s[k].toNat : Int) = H1 := hH1
        have f2 : hexI (s[k + 1].toNat : Int) = H2 := hH2
        have g1 := hexV_bd s[k].toNat
        have g2 := hexV_bd s[k + 1].toNat
        rw [hH1] at g1
        rw [hH2] at g2
        have hb : (hexB s[k] && hexB s[k + 1]) = decide (0 ≤ H1 ∧ 0 ≤ H2) := by unfold hexB; rw [hH1, hH2]; simp
        have r3 := q3 c1 _ _ hd
        have r4 := q4 c1 _ _ hd
        have hby : byte2 s[k] s[k + 1] = UInt8.ofNat (H1 * 16 + H2).toNat := by unfold byte2; rw [hH1, hH2]
        rw [hb] at r3 r4
        rw [hby] at r4
        clear q1 q2 q3 q4 c1 k2 k3 k4 k5 hd hb hby hH1 hH2
        by_cases b1 : 0 ≤ H1
        · have d1 : decide (H1 < 0) = false := by simp; omega
          by_cases b2 : 0 ≤ H2
          · have d2 : decide (H2 < 0) = false := by simp; omega
            have Q := hide (r4 (decide_eq_true ⟨b1, b2⟩))
            obtain ⟨VI, hVI⟩ : ∃ VI : Int, H1 * 16 + H2 = VI := ⟨_, rfl⟩
            rw [hVI] at Q
            have v1 : 0 ≤ VI ∧ VI ≤ 255 := by omega
            have HVC := hide (show Value.int .u8 VI = bcell (UInt8.ofNat VI.toNat) by
              have := ofNat_cell VI.toNat (by omega)
              rwa [show ((VI.toNat : Nat) : Int) = VI by omega] at this)
            have m1 : IntKind.i64.wrap (H1 * 16) = H1 * 16 := by rw [IntKind.wrap_i64]; omega
            have m2 : IntKind.i64.wrap VI = VI := by rw [IntKind.wrap_i64]; omega
            have m3 : IntKind.u8.wrap VI = VI := by rw [IntKind.wrap_u8]; omega
            have m4 : IntKind.i64.wrap ((k : Int) + 1) = (k : Int) + 1 := by rw [IntKind.wrap_i64]; have := HS.out; omega
            have HX := hide (And.intro m1 (And.intro m2 (And.intro m3 (And.intro m4 hVI))))
            clear r3 r4 v1 m1 m2 m3 m4 hVI
            go_upto_region 7 with (go_at_call 82; refine (hexI_any _ _ (UInt8.toNat_lt _)).mono ?_; rintro e w1 ⟨rfl, hw1⟩; replace hw1 := hw1.symm; subst hw1)
            go_cut [7] from 8 to 56 (fun s7 wc => Hid (BRow wc w.heap.size s7 (acc ++ [UInt8.ofNat VI.toNat]) ∧ Below w.heap.size w wc))
            case first =>
              obtain ⟨m1, m2, m3, m4, hVI⟩ := HX.out
              go_region_held3 (fun _ => True) (first | trivial | go_keep) ((first | (go_at_call 82; refine (hexI_any _ _ (UInt8.toNat_lt _)).mono ?_; rintro e x ⟨rfl, rfl⟩) | (refine step_append_lies _ (by rfl) _ _ _ (by rfl) w.heap.size 5 i0 (.int .u8 0) 1 1 Tryz.underlying43 HI.out HI0.out HI1.out HI2.out rfl (by decide) _ _ _ (by rfl) (World.ownsRow.alloc (w := wr.drew) K3.out _) ⟨wr.heap.size, 0, none⟩ 1 1 [.int .u8 VI] (by rfl) rfl (news1 wr.drew _ _) (ones1 _ _) (by omega) (by have := K2.out; have := HS.out; unfold maxLen; omega) (by have := K2.out; have := HS.out; omega) (by simp; have := K5.out.size; omega) (wr.heap.size + 1) (by simp) ?_; intro g cap wz hown hgrow hat hlt)))
              all_goals
                go_wp2_with fail
                go_meet
                refine hide ⟨?_, (K5.out.drew.alloc K5.out.drew.size _).grown hgrow (by simp; have := K5.out.size; omega) (fun k hk => (World.ownsRow.lt K3.out k hk).1)⟩
                unfold BRow
                rw [List.map_append, List.length_append, List.map_cons, ← HVC.out]
                exact hown
            case rest =>
              have HC := hcut
              go_wp2
              go_roundw
              case rel => exact ⟨k + 2, acc ++ [UInt8.ofNat VI.toNat], by go_num, hide ⟨by omega, by have := K2.out; simp; omega, HC.out.1, Q.out, HC.out.2⟩⟩
              case measure => simp [intOf]; omega
          · have d2 : decide (H2 < 0) = true := by simp; omega
            obtain rfl := r3 (decide_eq_false (by omega))
            clear r3 r4 g1 g2 b1 b2
            go_wp2_with (go_at_call 82; refine (hexI_any _ _ (UInt8.toNat_lt _)).mono ?_; rintro e w1 ⟨rfl, rfl⟩)
            go_ret3
            exact ⟨rfl, K5.out⟩
        · have d1 : decide (H1 < 0) = true := by simp; omega
          obtain rfl := r3 (decide_eq_false (by omega))
          clear r3 r4 g1 g2 b1
          go_wp2_with (go_at_call 82; refine (hexI_any _ _ (UInt8.toNat_lt _)).mono ?_; rintro e w1 ⟨rfl, rfl⟩)
          go_ret3
          exact ⟨rfl, K5.out⟩
      · have c3 : decide ((s.size : Int) ≤ (k : Int) + 1) = true := by simp; omega
        obtain rfl := q2 c1 (List.drop_eq_nil_of_le (by rw [← Lib.size_eq]; omega))
        clear q1 q2 q3 q4 c1 c2 k2 k3 k4 k5
        go_wp2
        go_ret3
        exact ⟨rfl, K5.out⟩
    · have hlt' : ¬ (k : Int) < (s.size : Int) := by omega
      obtain rfl : R = none := by
        rw [List.drop_eq_nil_of_le (by rw [← Lib.size_eq]; omega)] at k4
        exact k4.symm
      have K5 := hide k5
      clear k2 k3 k4 k5
      go_wp2
      go_ret3
      exact ⟨rfl, K5.out⟩
end Go.Proofs.YtalmcdbdibpgkaaGreatDoor
/-
  What the reference's named (chapter 5) answers.
-/
namespace Go.Proofs.YtalmcdbdibpgkaaGreatDoor
open Go.RowKit

def nR : Nat → List UInt8 → Nat → List UInt8 → Option (List UInt8 × Nat)
  | 0, _, p, acc => some (acc, p)
  | _ + 1, [], p, acc => some (acc, p)
  | f + 1, c :: l, p, acc =>
    if isEnd c.toNat then some (acc, p)
    else if c.toNat = 35 then (match l with
      | d :: e :: l' => if hexB d && hexB e then nR f l' (p + 3) (acc ++ [byte2 d e]) else none
      | _ => none)
    else if c.toNat < 33 ∨ 126 < c.toNat then none
    else nR f l (p + 1) (acc ++ [c])
theorem nR_cons (f : Nat) (c : UInt8) (l : List UInt8) (p : Nat) (acc : List UInt8) : nR (f + 1) (c :: l) p acc = if isEnd c.toNat then some (acc, p)
    else if c.toNat = 35 then (match l with
      | d :: e :: l' => if hexB d && hexB e then nR f l' (p + 3) (acc ++ [byte2 d e]) else none
      | _ => none)
    else if c.toNat < 33 ∨ 126 < c.toNat then none
    else nR f l (p + 1) (acc ++ [c]) := by
  match l with
  | [] => rfl
  | [_] => rfl
  | _ :: _ :: _ => rfl
theorem nR_fuel : ∀ (f g : Nat) (l : List UInt8) (p : Nat) (acc : List UInt8), l.length ≤ f → l.length ≤ g → nR f l p acc = nR g l p acc := by
  intro f
  induction f with
  | zero =>
    intro g l p acc h1 _
    obtain rfl : l = [] := List.eq_nil_of_length_eq_zero (by omega)
    cases g <;> simp [nR]
  | succ f ih =>
    intro g l p acc h1 h2
    match l, g with
    | [], 0 => simp [nR]
    | [], g + 1 => simp [nR]
    | c :: l, 0 => simp at h2
    | c :: l, g + 1 =>
      simp only [List.length_cons] at h1 h2
      rw [nR_cons, nR_cons, ih g l (p + 1) _ (by omega) (by omega)]
      match l with
      | [] => rfl
      | [_] => rfl
      | d :: e :: l' =>
        simp only [List.length_cons] at h1 h2 ⊢
        rw [ih g l' (p + 3) _ (by omega) (by omega)]
theorem nR_le : ∀ (f : Nat) (l : List UInt8) (p : Nat) (acc bs : List UInt8) (q : Nat), l.length ≤ f → nR f l p acc = some (bs, q) → p ≤ q ∧ q ≤ p + l.length ∧ bs.length ≤ acc.length + (q - p) := by
  intro f
  induction f with
  | zero => intro l p acc bs q _ h; simp [nR] at h; obtain ⟨rfl, rfl⟩ := h; omega
  | succ f ih =>
    intro l p acc bs q hl h
    match l with
    | [] => simp [nR] at h; obtain ⟨rfl, rfl⟩ := h; simp
    | c :: l =>
      simp only [List.length_cons] at hl ⊢
      rw [nR_cons] at h
      split at h
      · simp at h; obtain ⟨rfl, rfl⟩ := h; omega
      split at h
      · match l, h with
        | [], h => simp at h
        | [_], h => simp at h
        | d :: e :: l', h =>
          simp only at h
          split at h
          · have := ih _ _ _ _ _ (by simp at hl ⊢; omega) h
            simp at this ⊢; omega
          · simp at h
      split at h
      · simp at h
      · have := ih _ _ _ _ _ (by omega) h
        simp at this; omega
def Nm (l : List UInt8) (p : Nat) (acc : List UInt8) (R : Option (List UInt8 × Nat)) : Prop := nR l.length l p acc = R
def nmV (l : List UInt8) (p : Nat) : Option (List UInt8 × Nat) := nR l.length l p []
theorem Nm.next {c : UInt8} {l : List UInt8} {p : Nat} {acc : List UInt8} {R : Option (List UInt8 × Nat)} (h : Nm (c :: l) p acc R) :
    (isEnd c.toNat = true → R = some (acc, p)) ∧ (isEnd c.toNat = false → c.toNat = 35 → l.length < 2 → R = none) ∧ (isEnd c.toNat = false → c.toNat = 35 → ∀ d e l', l = d :: e :: l' → (hexB d && hexB e) = false → R = none) ∧
    (isEnd c.toNat = false → c.toNat = 35 → ∀ d e l', l = d :: e :: l' → (hexB d && hexB e) = true → Nm l' (p + 3) (acc ++ [byte2 d e]) R) ∧ (isEnd c.toNat = false → c.toNat ≠ 35 → (c.toNat < 33 ∨ 126 < c.toNat) → R = none) ∧
    (isEnd c.toNat = false → c.toNat ≠ 35 → ¬ (c.toNat < 33 ∨ 126 < c.toNat) → Nm l (p + 1) (acc ++ [c]) R) := by
  unfold Nm at h ⊢
  rw [List.length_cons, nR_cons] at h
  refine ⟨fun e => ?_, fun e e1 e2 => ?_, fun e e1 d x l' e2 e3 => ?_, fun e e1 d x l' e2 e3 => ?_, fun e e1 e2 => ?_, fun e e1 e2 => ?_⟩
  · rw [if_pos e] at h; exact h.symm
  · rw [e, if_neg (by simp), if_pos e1] at h
    match l, e2, h with
    | [], _, h => exact h.symm
    | [_], _, h => exact h.symm
    | _ :: _ :: _, e2, _ => exact absurd e2 (by simp only [List.length_cons]; omega)
  · subst e2; rw [e, if_neg (by simp), if_pos e1] at h; simp only [e3] at h; exact h.symm
  · subst e2
    rw [e, if_neg (by simp), if_pos e1] at h
    simp only [e3, if_true] at h
    rw [← h]
    exact nR_fuel _ _ _ _ _ (Nat.le_refl _) (by simp; omega)
  · rw [e, if_neg (by simp), if_neg e1, if_pos e2] at h; exact h.symm
  · rw [e, if_neg (by simp), if_neg e1, if_neg e2] at h; exact h
def nmT (R : Option (List UInt8 × Nat)) : Value := match R with
  | some (bs, p) => .tuple #[.string ⟨bs.toArray⟩, .int .i64 p, .bool (nameB bs)]
  | none => .tuple #[.string ⟨#[]⟩, .int .i64 0, .bool false]

set_option maxRecDepth 100000 in
set_option maxHeartbeats 2000000 in
theorem named_core (s : ByteArray) (at_ : Nat) (w : World) (hs : s.size ≤ 16777216) (ha : at_ ≤ s.size) (R : Option (List UInt8 × Nat)) (hR : nmV (s.data.toList.drop at_) at_ = R) :
    Calls Tryz.prog 50 #[.string s, .int .i64 at_] w fun e w' => e = .returned (nmT R) ∧ Below w.heap.size w w' := by
  have hs' : (s.size : Int) ≤ 16777216 := by omega
  have HR := hide (show Nm (s.data.toList.drop at_) at_ [] R from hR)
  have HS := hide hs
  obtain ⟨i0, hi, hz0, hz1, hz2⟩ := info_parts info_u8
  have HI := hide hi
  have HI0 := hide hz0
  have HI1 := hide hz1
  have HI2 := hide hz2
  clear hi hz0 hz1 hz2 hR hs
  go_enter Tryz.func50, Tryz.ntmps50
  go_wp2_with fail
  go_loopw [1, 7] (fun va vb wr => ∃ (k : Nat) (acc : List UInt8), va = .int .i64 k ∧ Hid (k ≤ s.size ∧ acc.length ≤ k ∧ BRow wr w.heap.size vb acc ∧ Nm (s.data.toList.drop k) k acc R ∧ Below w.heap.size w wr)) (fun va _ _ => s.size - (intOf va).toNat)
  case atStart => exact ⟨at_, [], rfl, hide ⟨ha, by simp, BRow.nil _ _, HR.out, Below.refl _ _⟩⟩
  case round =>
    obtain ⟨k, acc, rfl, HK⟩ := hrel
    obtain ⟨k1, k2, k3, k4, k5⟩ := HK.out
    clear HK HR
    have K2 := hide k2
    have K3 := hide k3
    have K5 := hide k5
    by_cases hlt : k < s.size
    · have hlt' : (k : Int) < (s.size : Int) := by omega
      rw [drop_at s k hlt] at k4
      obtain ⟨q1, q2, q3, q4, q5, q6⟩ := k4.next
      have CB := hide (fun w => blank_any s[k].toNat w s[k].toNat_lt)
      have CD := hide (fun w => delim_any s[k].toNat w s[k].toNat_lt)
      unfold isEnd at q1 q2 q3 q4 q5 q6
      clear k2 k3 k4 k5
      cases hb : isBl s[k].toNat
      · cases hd : isDl s[k].toNat
        · rw [hb, hd] at q2 q3 q4 q5 q6
          rw [hb] at CB
          rw [hd] at CD
          clear q1 hb hd
          by_cases c1 : s[k].toNat = 35
          · have e1 : ((s[k].toNat : Int) == 35) = true := by rw [beq_iff_eq]; omega
            have r2 := q2 rfl c1
            have r3 := q3 rfl c1
            have r4 := q4 rfl c1
            clear q2 q3 q4 q5 q6 c1
            by_cases c2 : k + 2 < s.size
            · have c3 : decide ((s.size : Int) ≤ (k : Int) + 2) = false := by simp; omega
              have p1 : (k : Int) + 1 < (s.size : Int) := by omega
              have p2 : (k : Int) + 2 < (s.size : Int) := by omega
              have hd : s.data.toList.drop (k + 1) = s[k + 1] :: s[k + 2] :: s.data.toList.drop (k + 3) := by rw [drop_at s (k + 1) (by omega), drop_at s (k + 1 + 1) (by omega)]
              obtain ⟨H1, hH1⟩ : ∃ H1, hexV s[k + 1].toNat = H1 := ⟨_, rfl⟩
              obtain ⟨H2, hH2⟩ : ∃ H2, hexV s[k + 2].toNat = H2 := ⟨_, rfl⟩
              have f1 : hexI (s[k + 1].toNat : Int) = H1 := hH1
              have f2 : hexI (s[k + 2].toNat : Int) = H2 := hH2
              have g1 := hexV_bd s[k + 1].toNat
              have g2 := hexV_bd s[k + 2].toNat
              rw [hH1] at g1
              rw [hH2] at g2
              have hbb : (hexB s[k + 1] && hexB s[k + 2]) = decide (0 ≤ H1 ∧ 0 ≤ H2) := by unfold hexB; rw [hH1, hH2]; simp
              have hby : byte2 s[k + 1] s[k + 2] = UInt8.ofNat (H1 * 16 + H2).toNat := by unfold byte2; rw [hH1, hH2]
              have s3 := r3 _ _ _ hd
              have s4 := r4 _ _ _ hd
              rw [hbb] at s3 s4
              rw [hby] at s4
              clear r2 r3 r4 hd hbb hby hH1 hH2
              by_cases b1 : 0 ≤ H1
              · have d1 : decide (H1 < 0) = false := by simp; omega
                by_cases b2 : 0 ≤ H2
                · have d2 : decide (H2 < 0) = false := by simp; omega
                  have Q := hide (s4 (decide_eq_true ⟨b1, b2⟩))
                  obtain ⟨VI, hVI⟩ : ∃ VI : Int, H1 * 16 + H2 = VI := ⟨_, rfl⟩
                  rw [hVI] at Q
                  have v1 : 0 ≤ VI ∧ VI ≤ 255 := by omega
                  have HVC := hide (show Value.int .u8 VI = bcell (UInt8.ofNat VI.toNat) by
                    have := ofNat_cell VI.toNat (by omega)
                    rwa [show ((VI.toNat : Nat) : Int) = VI by omega] at this)
                  have m1 : IntKind.i64.wrap (H1 * 16) = H1 * 16 := by rw [IntKind.wrap_i64]; omega
                  have m2 : IntKind.i64.wrap VI = VI := by rw [IntKind.wrap_i64]; omega
                  have m3 : IntKind.u8.wrap VI = VI := by rw [IntKind.wrap_u8]; omega
                  have m4 : IntKind.i64.wrap ((k : Int) + 1) = (k : Int) + 1 := by rw [IntKind.wrap_i64]; have := HS.out; omega
                  have m5 : IntKind.i64.wrap ((k : Int) + 2) = (k : Int) + 2 := by rw [IntKind.wrap_i64]; have := HS.out; omega
                  have m6 : ((k : Int) + 2).toNat = k + 2 := by omega
                  have HX := hide (And.intro m1 (And.intro m2 (And.intro m3 (And.intro m4 (And.intro m5 (And.intro m6 hVI))))))
                  clear s3 s4 v1 m1 m2 m3 m4 m5 m6 hVI
                  go_upto_region 6 with (first | (go_at_call 56; refine (CB.out _).mono ?_; rintro e w1 ⟨rfl, hw1⟩; replace hw1 := hw1.symm; subst hw1) | (go_at_call 68; refine (CD.out _).mono ?_; rintro e w1 ⟨rfl, hw1⟩; replace hw1 := hw1.symm; subst hw1) | (go_at_call 82; refine (hexI_any _ _ (UInt8.toNat_lt _)).mono ?_; rintro e w1 ⟨rfl, hw1⟩; replace hw1 := hw1.symm; subst hw1))
                  go_cut [7] from 8 to 86 (fun s7 wc => Hid (BRow wc w.heap.size s7 (acc ++ [UInt8.ofNat VI.toNat]) ∧ Below w.heap.size w wc))
                  case first =>
                    obtain ⟨m1, m2, m3, m4, m5, m6, hVI⟩ := HX.out
                    go_region_held3 (fun _ => True) (first | trivial | go_keep) ((first | (go_at_call 82; refine (hexI_any _ _ (UInt8.toNat_lt _)).mono ?_; rintro e x ⟨rfl, rfl⟩) | (refine step_append_lies _ (by rfl) _ _ _ (by rfl) w.heap.size 5 i0 (.int .u8 0) 1 1 Tryz.underlying43 HI.out HI0.out HI1.out HI2.out rfl (by decide) _ _ _ (by rfl) (World.ownsRow.alloc (w := wr.drew) K3.out _) ⟨wr.heap.size, 0, none⟩ 1 1 [.int .u8 VI] (by rfl) rfl (news1 wr.drew _ _) (ones1 _ _) (by omega) (by have := K2.out; have := HS.out; unfold maxLen; omega) (by have := K2.out; have := HS.out; omega) (by simp; have := K5.out.size; omega) (wr.heap.size + 1) (by simp) ?_; intro g cap wz hown hgrow hat hlt)))
                    all_goals
                      go_wp2_with fail
                      go_meet
                      refine hide ⟨?_, (K5.out.drew.alloc K5.out.drew.size _).grown hgrow (by simp; have := K5.out.size; omega) (fun k hk => (World.ownsRow.lt K3.out k hk).1)⟩
                      unfold BRow
                      rw [List.map_append, List.length_append, List.map_cons, ← HVC.out]
                      exact hown
                  case rest =>
                    have HC := hcut
                    go_wp2
                    go_roundw
                    case rel => exact ⟨k + 3, acc ++ [UInt8.ofNat VI.toNat], by go_num, hide ⟨by omega, by have := K2.out; simp; omega, HC.out.1, Q.out, HC.out.2⟩⟩
                    case measure => simp [intOf]; omega
                · have d2 : decide (H2 < 0) = true := by simp; omega
                  obtain rfl := s3 (decide_eq_false (by omega))
                  clear s3 s4 g1 g2 b1 b2
                  go_wp2_with (first | (go_at_call 56; refine (CB.out _).mono ?_; rintro e w1 ⟨rfl, hw1⟩; replace hw1 := hw1.symm; subst hw1) | (go_at_call 68; refine (CD.out _).mono ?_; rintro e w1 ⟨rfl, hw1⟩; replace hw1 := hw1.symm; subst hw1) | (go_at_call 82; refine (hexI_any _ _ (UInt8.toNat_lt _)).mono ?_; rintro e w1 ⟨rfl, hw1⟩; replace hw1 := hw1.symm; subst hw1))
                  go_ret3
                  exact ⟨rfl, K5.out⟩
              · have d1 : decide (H1 < 0) = true := by simp; omega
                obtain rfl := s3 (decide_eq_false (by omega))
                clear s3 s4 g1 g2 b1
                go_wp2_with (first | (go_at_call 56; refine (CB.out _).mono ?_; rintro e w1 ⟨rfl, hw1⟩; replace hw1 := hw1.symm; subst hw1) | (go_at_call 68; refine (CD.out _).mono ?_; rintro e w1 ⟨rfl, hw1⟩; replace hw1 := hw1.symm; subst hw1) | (go_at_call 82; refine (hexI_any _ _ (UInt8.toNat_lt _)).mono ?_; rintro e w1 ⟨rfl, hw1⟩; replace hw1 := hw1.symm; subst hw1))
                go_ret3
                exact ⟨rfl, K5.out⟩
            · have c3 : decide ((s.size : Int) ≤ (k : Int) + 2) = true := by simp; omega
              obtain rfl := r2 (by rw [List.length_drop, ← Lib.size_eq]; omega)
              clear r2 r3 r4 c2
              go_wp2_with (first | (go_at_call 56; refine (CB.out _).mono ?_; rintro e w1 ⟨rfl, hw1⟩; replace hw1 := hw1.symm; subst hw1) | (go_at_call 68; refine (CD.out _).mono ?_; rintro e w1 ⟨rfl, hw1⟩; replace hw1 := hw1.symm; subst hw1))
              go_ret3
              exact ⟨rfl, K5.out⟩
          · have e1 : ((s[k].toNat : Int) == 35) = false := by rw [beq_eq_false_iff_ne]; omega
            have r5 := q5 rfl c1
            have r6 := q6 rfl c1
            clear q2 q3 q4 q5 q6 c1
            by_cases c2 : s[k].toNat < 33
            · have d1 : decide ((s[k].toNat : Int) < 33) = true := by simp; omega
              obtain rfl := r5 (Or.inl c2)
              clear r5 r6 c2
              go_wp2_with (first | (go_at_call 56; refine (CB.out _).mono ?_; rintro e w1 ⟨rfl, hw1⟩; replace hw1 := hw1.symm; subst hw1) | (go_at_call 68; refine (CD.out _).mono ?_; rintro e w1 ⟨rfl, hw1⟩; replace hw1 := hw1.symm; subst hw1))
              go_ret3
              exact ⟨rfl, K5.out⟩
            · have d1 : decide ((s[k].toNat : Int) < 33) = false := by simp; omega
              by_cases c3 : 126 < s[k].toNat
              · have d2 : decide ((126 : Int) < (s[k].toNat : Int)) = true := by simp; omega
                obtain rfl := r5 (Or.inr c3)
                clear r5 r6 c2 c3
                go_wp2_with (first | (go_at_call 56; refine (CB.out _).mono ?_; rintro e w1 ⟨rfl, hw1⟩; replace hw1 := hw1.symm; subst hw1) | (go_at_call 68; refine (CD.out _).mono ?_; rintro e w1 ⟨rfl, hw1⟩; replace hw1 := hw1.symm; subst hw1))
                go_ret3
                exact ⟨rfl, K5.out⟩
              · have d2 : decide ((126 : Int) < (s[k].toNat : Int)) = false := by simp; omega
                have Q := hide (r6 (by omega))
                clear r5 r6 c2 c3
                go_wp2_with (first
                  | (first | (go_at_call 56; refine (CB.out _).mono ?_; rintro e w1 ⟨rfl, hw1⟩; replace hw1 := hw1.symm; subst hw1) | (go_at_call 68; refine (CD.out _).mono ?_; rintro e w1 ⟨rfl, hw1⟩; replace hw1 := hw1.symm; subst hw1))
                  | (at_builtin; refine wpList_append_own _ rfl _ _ 43 rfl w.heap.size 5 i0 (.int .u8 0) 1 1 Tryz.underlying43 HI.out HI0.out HI1.out HI2.out rfl (by decide) _ _ _ rfl (World.ownsRow.alloc K3.out _) ⟨_, 0, none⟩ 1 1 [.int .u8 (s[k].toNat : Int)] rfl rfl ?d1 ?d2 ?d3 ?d4 ?d5 ?_))
                case d1 =>
                  intro j u hj
                  match j, hj with
                  | 0, hj => simp at hj; subst hj; simp [Addr.add]
                case d2 => intro u hu; simp at hu; subst hu; rfl
                case d3 => have := K2.out; have := HS.out; unfold maxLen; omega
                case d4 => have := K2.out; have := HS.out; omega
                case d5 => simp; have := K5.out.size; omega
                intro v2 w2 hown2 hgrow2 _
                have HB2 := hide (show Below w.heap.size w w2 from (K5.out.alloc K5.out.size _).grown hgrow2 (by simp; have := K5.out.size; omega) (fun k hk => (World.ownsRow.lt K3.out k hk).1))
                have HO2 := hide (show BRow w2 w.heap.size v2 (acc ++ [s[k]]) by
                  unfold BRow
                  rw [List.map_append, List.length_append]
                  exact hown2)
                clear hown2 hgrow2
                go_wp2
                go_roundw
                case rel => exact ⟨k + 1, acc ++ [s[k]], by go_num, hide ⟨by omega, by have := K2.out; simp; omega, HO2.out, Q.out, HB2.out⟩⟩
                case measure => simp [intOf]; omega
        · obtain rfl := q1 (by rw [hd]; simp)
          rw [hb] at CB
          rw [hd] at CD
          have HD := hide hd
          clear hd
          have hcv := fun n => BRow.text (w := wr.drewN n) K3.out
          have CN := hide (fun w => rname_any ⟨acc.toArray⟩ w (by rw [Lib.size_eq]; have := HS.out; have := K2.out; simp; omega))
          clear q1 q2 q3 q4 q5 q6 hb HD
          go_wp2_with (first | (go_at_call 56; refine (CB.out _).mono ?_; rintro e w1 ⟨rfl, hw1⟩; replace hw1 := hw1.symm; subst hw1) | (go_at_call 68; refine (CD.out _).mono ?_; rintro e w1 ⟨rfl, hw1⟩; replace hw1 := hw1.symm; subst hw1))
          rename_i q0
          have HA := hide q0
          clear q0
          go_quiet ((go_at_call 83; exact Calls.quiet_of_same (CN.out _)))
          refine HA.out _ _ ?_
          go_wp2
          go_ret3
          exact ⟨rfl, below_drewN K5.out _⟩
      · obtain rfl := q1 (by rw [hb]; simp)
        rw [hb] at CB
        have HD := hide hb
        have hcv := fun n => BRow.text (w := wr.drewN n) K3.out
        have CN := hide (fun w => rname_any ⟨acc.toArray⟩ w (by rw [Lib.size_eq]; have := HS.out; have := K2.out; simp; omega))
        clear q1 q2 q3 q4 q5 q6 hb HD
        go_wp2_with (first | (go_at_call 56; refine (CB.out _).mono ?_; rintro e w1 ⟨rfl, hw1⟩; replace hw1 := hw1.symm; subst hw1) | (go_at_call 68; refine (CD.out _).mono ?_; rintro e w1 ⟨rfl, hw1⟩; replace hw1 := hw1.symm; subst hw1))
        rename_i q0
        have HA := hide q0
        clear q0
        go_quiet ((go_at_call 83; exact Calls.quiet_of_same (CN.out _)))
        refine HA.out _ _ ?_
        go_wp2
        go_ret3
        exact ⟨rfl, below_drewN K5.out _⟩
    · have hlt' : decide ((k : Int) < (s.size : Int)) = false := by simp; omega
      obtain rfl : R = some (acc, k) := by
        rw [List.drop_eq_nil_of_le (by rw [← Lib.size_eq]; omega)] at k4
        exact k4.symm
      have hcv := fun n => BRow.text (w := wr.drewN n) k3
      have CN := hide (fun w => rname_any ⟨acc.toArray⟩ w (by rw [Lib.size_eq]; have := HS.out; simp; omega))
      clear k2 k3 k4 k5
      go_wp2_with fail
      rename_i q0
      have HA := hide q0
      clear q0
      go_quiet ((go_at_call 83; exact Calls.quiet_of_same (CN.out _)))
      refine HA.out _ _ ?_
      go_wp2
      go_ret3
      exact ⟨rfl, below_drewN K5.out _⟩
end Go.Proofs.YtalmcdbdibpgkaaGreatDoor
/-
  What the reference's Integer (chapter 5) answers.
-/
namespace Go.Proofs.YtalmcdbdibpgkaaGreatDoor
open Go.RowKit

def isDg (c : UInt8) : Bool := decide (48 ≤ c.toNat ∧ c.toNat ≤ 57)
def valD (l : List UInt8) : Nat := l.foldl (fun a c => a * 10 + (c.toNat - 48)) 0
theorem valD_snoc (l : List UInt8) (c : UInt8) : valD (l ++ [c]) = valD l * 10 + (c.toNat - 48) := by simp [valD]
theorem valD_lt (l : List UInt8) (h : l.all isDg = true) : valD l < 10 ^ l.length := by
  have : ∀ (m : List UInt8), m.all isDg = true → valD m.reverse < 10 ^ m.length := by
    intro m
    induction m with
    | nil => intro _; decide
    | cons c m ih =>
      intro h
      simp only [List.all_cons, Bool.and_eq_true] at h
      rw [List.reverse_cons, valD_snoc, List.length_cons, Nat.pow_succ]
      have h1 := ih h.2
      have h2 := h.1
      unfold isDg at h2
      simp at h2
      omega
  have := this l.reverse (by rw [List.all_reverse]; exact h)
  rwa [List.reverse_reverse, List.length_reverse] at this
def intD (neg : Bool) (d : List UInt8) : Int × Bool :=
  if d.length = 0 ∨ 14 < d.length ∨ ((d.getD 0 0).toNat = 48 ∧ (1 < d.length ∨ neg = true)) then (0, false)
  else if d.all isDg then ((if neg then -(valD d : Int) else (valD d : Int)), inB (if neg then -(valD d : Int) else (valD d : Int))) else (0, false)
def intW (l : List UInt8) : Int × Bool := if (l.getD 0 0).toNat = 45 ∧ 0 < l.length then intD true (l.drop 1) else intD false l

set_option maxRecDepth 100000 in
set_option maxHeartbeats 2000000 in
theorem int_pos (s : ByteArray) (w : World) (hs : s.size ≤ 16777216) (hm : s.size = 0 ∨ ∃ h : 0 < s.size, s[0].toNat ≠ 45) (R : Int × Bool) (hR : intD false s.data.toList = R) :
    Calls Tryz.prog 86 #[.string s] w fun e w' => e = .returned (.tuple #[.int .i64 R.1, .bool R.2]) ∧ w' = w := by
  have HR := hide hR
  have hs' : (s.size : Int) ≤ 16777216 := by omega
  clear hR
  by_cases z : s.size = 0
  · obtain rfl : R = (0, false) := by rw [← HR.out]; unfold intD; rw [if_pos (Or.inl (by rw [← Lib.size_eq]; exact z))]
    have z0 : decide (0 < s.size) = false := decide_eq_false (by omega)
    clear HR hm
    go_enter Tryz.func86, Tryz.ntmps86
    go_wp2
    go_ret2
    exact ⟨rfl, rfl⟩
  have h0 : 0 < s.size := by omega
  have hm' : s[0].toNat ≠ 45 := by rcases hm with h | ⟨_, h⟩; exact absurd h z; exact h
  have z0 : decide (0 < s.size) = true := by simp; exact h0
  have z1 : (0 : Int) < (s.size : Int) := by omega
  have z2 : ((s[0].toNat : Int) == 45) = false := by rw [beq_eq_false_iff_ne]; omega
  clear hm hm'
  have n0 : ((s.size : Int) == 0) = false := by rw [beq_eq_false_iff_ne]; omega
  have n1 : (0 : Int) < (s.size : Int) := by omega
  have n2 : 0 < s.size := by omega
  by_cases g : 14 < s.size
  · obtain rfl : R = (0, false) := by rw [← HR.out]; unfold intD; rw [if_pos (Or.inr (Or.inl (by rw [← Lib.size_eq]; exact g)))]
    have g' : decide ((14 : Int) < (s.size : Int)) = true := by simp; omega
    clear g HR
    go_enter Tryz.func86, Tryz.ntmps86
    go_wp2
    go_ret2
    exact ⟨rfl, rfl⟩
  have g' : decide ((14 : Int) < (s.size : Int)) = false := by simp; omega
  have g2 : (s.size : Int) ≤ 14 := by omega
  have hg0 : s.data.toList.getD 0 0 = s[0] := by
    rw [List.getD_eq_getElem?_getD, get_at s 0 n2]
    rfl
  by_cases f : s[0].toNat = 48 ∧ (1 < s.size ∨ false = true)
  · obtain rfl : R = (0, false) := by rw [← HR.out]; unfold intD; rw [if_pos (Or.inr (Or.inr (by rw [hg0, ← Lib.size_eq]; exact f)))]
    have f1 : ((s[0].toNat : Int) == 48) = true := by rw [beq_iff_eq]; omega
    have f3 : decide ((1 : Int) < (s.size : Int)) = true := decide_eq_true (by rcases f.2 with h | h; omega; cases h)
    clear f HR hg0
    go_enter Tryz.func86, Tryz.ntmps86
    go_wp2
    go_ret2
    exact ⟨rfl, rfl⟩
  have HN := hide (show intD false s.data.toList = if s.data.toList.all isDg then ((if false then -(valD s.data.toList : Int) else (valD s.data.toList : Int)), inB (if false then -(valD s.data.toList : Int) else (valD s.data.toList : Int))) else (0, false) by
    unfold intD
    rw [if_neg (by rw [hg0, ← Lib.size_eq]; intro h; rcases h with h | h | h; exact z h; exact g h; exact f h)])
  have FW : (((s[0].toNat : Int) == 48) = false) ∨ (((s[0].toNat : Int) == 48) = true ∧ decide ((1 : Int) < (s.size : Int)) = false) := by
    by_cases h : s[0].toNat = 48
    · right; exact ⟨by rw [beq_iff_eq]; omega, decide_eq_false (by intro h1; exact f ⟨h, Or.inl (by omega)⟩)⟩
    · left; rw [beq_eq_false_iff_ne]; omega
  clear f hg0 z g
  rcases FW with f1 | ⟨f1, f3⟩
  all_goals
    go_enter Tryz.func86, Tryz.ntmps86
    go_wp2_with fail
    go_loop [6, 7] (fun vn vi => ∃ (v k : Nat), vn = .int .i64 v ∧ vi = .int .i64 k ∧ Hid (k ≤ s.size ∧ valD (s.data.toList.take k) = v ∧ (s.data.toList.take k).all isDg = true)) (fun _ vi => s.size - (intOf vi).toNat)
    case atStart => exact ⟨0, 0, rfl, rfl, hide ⟨by omega, rfl, by simp⟩⟩
    case round =>
      obtain ⟨v, k, rfl, rfl, HK⟩ := hrel
      obtain ⟨k1, k2, k3⟩ := HK.out
      clear HK
      have hv := valD_lt _ k3
      rw [k2, List.length_take, ← Lib.size_eq] at hv
      have hv2 : v < 10 ^ 14 := Nat.lt_of_lt_of_le hv (Nat.pow_le_pow_right (by decide) (by omega))
      have v1 : (v : Int) ≤ 99999999999999 := by have e : (10 : Nat) ^ 14 = 100000000000000 := rfl; omega
      have K2 := hide k2
      have K3 := hide k3
      by_cases hlt : k < s.size
      · have hlt' : (k : Int) < (s.size : Int) := by omega
        have v2 : (v : Int) ≤ 9999999999999 := by
          have h2 : v < 10 ^ 13 := Nat.lt_of_lt_of_le hv (Nat.pow_le_pow_right (by decide) (by omega))
          have e : (10 : Nat) ^ 13 = 10000000000000 := rfl
          omega
        have T := hide (take_at s k hlt)
        by_cases hd : isDg s[k] = true
        · have HD := hide hd
          unfold isDg at hd
          simp at hd
          have d1 : decide ((s[k].toNat : Int) < 48) = false := by simp; omega
          have d2 : decide ((57 : Int) < (s[k].toNat : Int)) = false := by simp; omega
          have d3 : (48 : Int) ≤ (s[k].toNat : Int) := by omega
          have d4 : (s[k].toNat : Int) ≤ 57 := by omega
          have HV := hide (show (v : Int) * 10 + ((s[k].toNat : Int) - 48) = ((v * 10 + (s[k].toNat - 48) : Nat) : Int) by omega)
          clear hd k2 k3 hv hv2 v1
          go_wp2
          go_round
          case rel =>
            refine ⟨v * 10 + (s[k].toNat - 48), k + 1, ?_, by go_num, hide ⟨by omega, ?_, ?_⟩⟩
            · have := HV.out; congr 1
            · rw [T.out, valD_snoc, K2.out]
            · rw [T.out, List.all_append, K3.out]; simpa using HD.out
          case measure => simp [intOf]; omega
        · obtain rfl : R = (0, false) := by
            rw [← HR.out, HN.out, if_neg]
            intro h
            rw [List.all_eq_true] at h
            exact hd (h _ (List.mem_iff_getElem?.2 ⟨k, get_at s k hlt⟩))
          unfold isDg at hd
          simp at hd
          clear k2 k3 hv hv2 v1 v2 HR HN
          by_cases d0 : s[k].toNat < 48
          · have d1 : decide ((s[k].toNat : Int) < 48) = true := by simp; omega
            clear hd d0
            go_wp2
            go_ret2
            exact ⟨rfl, rfl⟩
          · have d1 : decide ((s[k].toNat : Int) < 48) = false := by simp; omega
            have d2 : decide ((57 : Int) < (s[k].toNat : Int)) = true := by simp; omega
            clear hd d0
            go_wp2
            go_ret2
            exact ⟨rfl, rfl⟩
      · have hlt' : ¬ (k : Int) < (s.size : Int) := by omega
        rw [List.take_of_length_le (by rw [← Lib.size_eq]; omega)] at k2 k3
        obtain rfl : R = ((v : Int), inB ((v : Int))) := by rw [← HR.out, HN.out, k3, k2]; rfl
        clear k2 k3 hv hv2 K2 K3 HR HN
        go_wp2_with (go_at_call 67; refine (rin_any _ _).mono ?_; rintro e w1 ⟨rfl, rfl⟩)
        go_ret2
        exact ⟨rfl, rfl⟩
set_option maxRecDepth 100000 in
set_option maxHeartbeats 2000000 in
theorem int_neg (s D : ByteArray) (w : World) (hs : s.size ≤ 16777216) (hD : s.extract 1 s.size = D) (h0 : 0 < s.size) (hm : s[0].toNat = 45) (hDs : D.size ≤ 16777216) (R : Int × Bool) (hR : intD true D.data.toList = R) :
    Calls Tryz.prog 86 #[.string s] w fun e w' => e = .returned (.tuple #[.int .i64 R.1, .bool R.2]) ∧ w' = w := by
  have HR := hide hR
  have hs' : (s.size : Int) ≤ 16777216 := by omega
  clear hR
  have z0 : decide (0 < s.size) = true := by simp; exact h0
  have z1 : (0 : Int) < (s.size : Int) := by omega
  have z2 : ((s[0].toNat : Int) == 45) = true := by rw [beq_iff_eq]; omega
  have z3 : (1 : Int) ≤ (s.size : Int) := by omega
  have hDs' : (D.size : Int) ≤ 16777216 := by omega
  clear hm
  by_cases z : D.size = 0
  · obtain rfl : R = (0, false) := by rw [← HR.out]; unfold intD; rw [if_pos (Or.inl (by rw [← Lib.size_eq]; exact z))]
    clear HR
    go_enter Tryz.func86, Tryz.ntmps86
    go_wp2
    go_ret2
    exact ⟨rfl, rfl⟩
  have n0 : ((D.size : Int) == 0) = false := by rw [beq_eq_false_iff_ne]; omega
  have n1 : (0 : Int) < (D.size : Int) := by omega
  have n2 : 0 < D.size := by omega
  by_cases g : 14 < D.size
  · obtain rfl : R = (0, false) := by rw [← HR.out]; unfold intD; rw [if_pos (Or.inr (Or.inl (by rw [← Lib.size_eq]; exact g)))]
    have g' : decide ((14 : Int) < (D.size : Int)) = true := by simp; omega
    clear g HR
    go_enter Tryz.func86, Tryz.ntmps86
    go_wp2
    go_ret2
    exact ⟨rfl, rfl⟩
  have g' : decide ((14 : Int) < (D.size : Int)) = false := by simp; omega
  have g2 : (D.size : Int) ≤ 14 := by omega
  have hg0 : D.data.toList.getD 0 0 = D[0] := by
    rw [List.getD_eq_getElem?_getD, get_at D 0 n2]
    rfl
  by_cases f : D[0].toNat = 48 ∧ (1 < D.size ∨ true = true)
  · obtain rfl : R = (0, false) := by rw [← HR.out]; unfold intD; rw [if_pos (Or.inr (Or.inr (by rw [hg0, ← Lib.size_eq]; exact f)))]
    have f1 : ((D[0].toNat : Int) == 48) = true := by rw [beq_iff_eq]; omega
    by_cases f2 : 1 < D.size
    · have f3 : decide ((1 : Int) < (D.size : Int)) = true := by simp; omega
      clear f f2 HR hg0
      go_enter Tryz.func86, Tryz.ntmps86
      go_wp2
      go_ret2
      exact ⟨rfl, rfl⟩
    · have f3 : decide ((1 : Int) < (D.size : Int)) = false := by simp; omega
      clear f f2 HR hg0
      go_enter Tryz.func86, Tryz.ntmps86
      go_wp2
      go_ret2
      exact ⟨rfl, rfl⟩
  have HN := hide (show intD true D.data.toList = if D.data.toList.all isDg then ((if true then -(valD D.data.toList : Int) else (valD D.data.toList : Int)), inB (if true then -(valD D.data.toList : Int) else (valD D.data.toList : Int))) else (0, false) by
    unfold intD
    rw [if_neg (by rw [hg0, ← Lib.size_eq]; intro h; rcases h with h | h | h; exact z h; exact g h; exact f h)])
  have FW : (((D[0].toNat : Int) == 48) = false) ∨ (((D[0].toNat : Int) == 48) = true ∧ False) := by
    by_cases h : D[0].toNat = 48
    · exact absurd ⟨h, Or.inr rfl⟩ f
    · left; rw [beq_eq_false_iff_ne]; omega
  clear f hg0 z g
  rcases FW with f1 | ⟨_, hF⟩
  rotate_left
  · exact hF.elim
  all_goals
    go_enter Tryz.func86, Tryz.ntmps86
    go_wp2_with fail
    go_loop [6, 7] (fun vn vi => ∃ (v k : Nat), vn = .int .i64 v ∧ vi = .int .i64 k ∧ Hid (k ≤ D.size ∧ valD (D.data.toList.take k) = v ∧ (D.data.toList.take k).all isDg = true)) (fun _ vi => D.size - (intOf vi).toNat)
    case atStart => exact ⟨0, 0, rfl, rfl, hide ⟨by omega, rfl, by simp⟩⟩
    case round =>
      obtain ⟨v, k, rfl, rfl, HK⟩ := hrel
      obtain ⟨k1, k2, k3⟩ := HK.out
      clear HK
      have hv := valD_lt _ k3
      rw [k2, List.length_take, ← Lib.size_eq] at hv
      have hv2 : v < 10 ^ 14 := Nat.lt_of_lt_of_le hv (Nat.pow_le_pow_right (by decide) (by omega))
      have v1 : (v : Int) ≤ 99999999999999 := by have e : (10 : Nat) ^ 14 = 100000000000000 := rfl; omega
      have K2 := hide k2
      have K3 := hide k3
      by_cases hlt : k < D.size
      · have hlt' : (k : Int) < (D.size : Int) := by omega
        have v2 : (v : Int) ≤ 9999999999999 := by
          have h2 : v < 10 ^ 13 := Nat.lt_of_lt_of_le hv (Nat.pow_le_pow_right (by decide) (by omega))
          have e : (10 : Nat) ^ 13 = 10000000000000 := rfl
          omega
        have T := hide (take_at D k hlt)
        by_cases hd : isDg D[k] = true
        · have HD := hide hd
          unfold isDg at hd
          simp at hd
          have d1 : decide ((D[k].toNat : Int) < 48) = false := by simp; omega
          have d2 : decide ((57 : Int) < (D[k].toNat : Int)) = false := by simp; omega
          have d3 : (48 : Int) ≤ (D[k].toNat : Int) := by omega
          have d4 : (D[k].toNat : Int) ≤ 57 := by omega
          have HV := hide (show (v : Int) * 10 + ((D[k].toNat : Int) - 48) = ((v * 10 + (D[k].toNat - 48) : Nat) : Int) by omega)
          clear hd k2 k3 hv hv2 v1
          go_wp2
          go_round
          case rel =>
            refine ⟨v * 10 + (D[k].toNat - 48), k + 1, ?_, by go_num, hide ⟨by omega, ?_, ?_⟩⟩
            · have := HV.out; congr 1
            · rw [T.out, valD_snoc, K2.out]
            · rw [T.out, List.all_append, K3.out]; simpa using HD.out
          case measure => simp [intOf]; omega
        · obtain rfl : R = (0, false) := by
            rw [← HR.out, HN.out, if_neg]
            intro h
            rw [List.all_eq_true] at h
            exact hd (h _ (List.mem_iff_getElem?.2 ⟨k, get_at D k hlt⟩))
          unfold isDg at hd
          simp at hd
          clear k2 k3 hv hv2 v1 v2 HR HN
          by_cases d0 : D[k].toNat < 48
          · have d1 : decide ((D[k].toNat : Int) < 48) = true := by simp; omega
            clear hd d0
            go_wp2
            go_ret2
            exact ⟨rfl, rfl⟩
          · have d1 : decide ((D[k].toNat : Int) < 48) = false := by simp; omega
            have d2 : decide ((57 : Int) < (D[k].toNat : Int)) = true := by simp; omega
            clear hd d0
            go_wp2
            go_ret2
            exact ⟨rfl, rfl⟩
      · have hlt' : ¬ (k : Int) < (D.size : Int) := by omega
        rw [List.take_of_length_le (by rw [← Lib.size_eq]; omega)] at k2 k3
        obtain rfl : R = (-(v : Int), inB (-(v : Int))) := by rw [← HR.out, HN.out, k3, k2]; rfl
        clear k2 k3 hv hv2 K2 K3 HR HN
        go_wp2_with (go_at_call 67; refine (rin_any _ _).mono ?_; rintro e w1 ⟨rfl, rfl⟩)
        go_ret2
        exact ⟨rfl, rfl⟩
set_option maxRecDepth 100000 in
theorem integer_any (s : ByteArray) (w : World) (hs : s.size ≤ 16777216) :
    Calls Tryz.prog 86 #[.string s] w fun e w' => e = .returned (.tuple #[.int .i64 (intW s.data.toList).1, .bool (intW s.data.toList).2]) ∧ w' = w := by
  unfold intW
  by_cases h0 : 0 < s.size
  · have hg0 : s.data.toList.getD 0 0 = s[0] := by
      rw [List.getD_eq_getElem?_getD, get_at s 0 h0]
      rfl
    by_cases hm : s[0].toNat = 45
    · rw [if_pos ⟨by rw [hg0]; exact hm, by rw [← Lib.size_eq]; exact h0⟩]
      have hx : (s.extract 1 s.size).data.toList = s.data.toList.drop 1 := by
        rw [Lib.extract_data]
        exact List.take_of_length_le (by rw [List.length_drop, ← Lib.size_eq]; exact Nat.le_refl _)
      exact int_neg s _ w hs rfl h0 hm (by rw [Lib.size_eq, hx, List.length_drop, ← Lib.size_eq]; omega) _ (by rw [hx])
    · rw [if_neg (by rw [hg0]; exact fun h => hm h.1)]
      exact int_pos s w hs (Or.inr ⟨h0, hm⟩) _ rfl
  · rw [if_neg (by rw [← Lib.size_eq]; exact fun h => h0 h.2)]
    exact int_pos s w hs (Or.inl (by omega)) _ rfl
end Go.Proofs.YtalmcdbdibpgkaaGreatDoor
