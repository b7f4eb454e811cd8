/-
  Code points as bytes, in plain words: UTF-8 and UTF-16, there and back.
-/
import Derived.Lib.DecodeN
namespace Go.Proofs.YtpmdekhjodhdmaaDoor
open Go.Lib

def isP (c : Int) : Bool := decide (0 ≤ c ∧ c ≤ 1114111 ∧ ¬ (55296 ≤ c ∧ c ≤ 57343))
theorem isP_t {c : Int} : isP c = true ↔ (0 ≤ c ∧ c ≤ 1114111 ∧ ¬ (55296 ≤ c ∧ c ≤ 57343)) := by unfold isP; exact decide_eq_true_iff
theorem isP_f {c : Int} : isP c = false ↔ ¬ (0 ≤ c ∧ c ≤ 1114111 ∧ ¬ (55296 ≤ c ∧ c ≤ 57343)) := by unfold isP; exact decide_eq_false_iff_not

def bt (n : Nat) : UInt8 := UInt8.ofNat n
theorem bt_nat (n : Nat) (h : n < 256) : (bt n).toNat = n := by unfold bt; rw [UInt8.toNat_ofNat']; omega
theorem bt_eq {n : Nat} {b : UInt8} (h : n = b.toNat) : bt n = b := by
  apply UInt8.toNat_inj.1
  rw [bt_nat n (by have := b.toNat_lt; omega), h]

/- UTF-8 -/
def e8 (c : Nat) : List UInt8 :=
  if c < 128 then [bt c]
  else if c < 2048 then [bt (192 + c / 64), bt (128 + c % 64)]
  else if c < 65536 then [bt (224 + c / 4096), bt (128 + c / 64 % 64), bt (128 + c % 64)]
  else [bt (240 + c / 262144), bt (128 + c / 4096 % 64), bt (128 + c / 64 % 64), bt (128 + c % 64)]
theorem u8_1 {c : Nat} (h : c < 128) : e8 c = [bt c] := by unfold e8; rw [if_pos h]
theorem u8_2 {c : Nat} (h : 128 ≤ c) (h2 : c < 2048) : e8 c = [bt (192 + c / 64), bt (128 + c % 64)] := by unfold e8; rw [if_neg (by omega), if_pos h2]
theorem u8_3 {c : Nat} (h : 2048 ≤ c) (h2 : c < 65536) : e8 c = [bt (224 + c / 4096), bt (128 + c / 64 % 64), bt (128 + c % 64)] := by unfold e8; rw [if_neg (by omega), if_neg (by omega), if_pos h2]
theorem u8_4 {c : Nat} (h : 65536 ≤ c) : e8 c = [bt (240 + c / 262144), bt (128 + c / 4096 % 64), bt (128 + c / 64 % 64), bt (128 + c % 64)] := by unfold e8; rw [if_neg (by omega), if_neg (by omega), if_neg (by omega)]

def dN (l : List UInt8) : Nat × Nat := decodeN l.length (l.getD 0 0).toNat (l.getD 1 0).toNat (l.getD 2 0).toNat (l.getD 3 0).toNat
/- the code point with which bytes begin, and how many bytes are its; none: no bytes -/
def st8 (l : List UInt8) : Nat × Nat := if l = [] then (0, 0) else if dN l = (65533, 1) then (0, 0) else dN l

/- UTF-16 -/
def e16 (c : Nat) : List UInt8 :=
  if c < 65536 then [bt (c / 256), bt (c % 256)]
  else [bt ((55296 + (c - 65536) / 1024) / 256), bt ((55296 + (c - 65536) / 1024) % 256), bt ((56320 + (c - 65536) % 1024) / 256), bt ((56320 + (c - 65536) % 1024) % 256)]
def un (l : List UInt8) : Nat := (l.getD 0 0).toNat * 256 + (l.getD 1 0).toNat
def st16 (l : List UInt8) : Nat × Nat :=
  if l.length < 2 then (0, 0)
  else if 56320 ≤ un l ∧ un l ≤ 57343 then (0, 0)
  else if ¬ (55296 ≤ un l ∧ un l ≤ 56319) then (un l, 2)
  else if l.length < 4 then (0, 0)
  else if ¬ (56320 ≤ un (l.drop 2) ∧ un (l.drop 2) ≤ 57343) then (0, 0)
  else (65536 + (un l - 55296) * 1024 + (un (l.drop 2) - 56320), 4)

theorem pair_eq {a b c : Nat} (h : a = b) : (a, c) = (b, c) := by rw [h]
theorem cons2 {l : List UInt8} (h : 2 ≤ l.length) : ∃ b0 b1 r, l = b0 :: b1 :: r := by
  match l with
  | b0 :: b1 :: r => exact ⟨b0, b1, r, rfl⟩
  | [b0] => simp at h
  | [] => simp at h
theorem cons3 {l : List UInt8} (h : 3 ≤ l.length) : ∃ b0 b1 b2 r, l = b0 :: b1 :: b2 :: r := by
  obtain ⟨b0, b1, r, rfl⟩ := cons2 (l := l) (by omega)
  match r with
  | b2 :: r => exact ⟨b0, b1, b2, r, rfl⟩
  | [] => simp at h
theorem cons4 {l : List UInt8} (h : 4 ≤ l.length) : ∃ b0 b1 b2 b3 r, l = b0 :: b1 :: b2 :: b3 :: r := by
  obtain ⟨b0, b1, b2, r, rfl⟩ := cons3 (l := l) (by omega)
  match r with
  | b3 :: r => exact ⟨b0, b1, b2, b3, r, rfl⟩
  | [] => simp at h
theorem cons1 {l : List UInt8} (h : l ≠ []) : ∃ b0 r, l = b0 :: r := by
  match l with
  | b0 :: r => exact ⟨b0, r, rfl⟩
  | [] => exact absurd rfl h
/- a way of writing code points, and of reading one -/
structure Code (enc : Nat → List UInt8) (st : List UInt8 → Nat × Nat) : Prop where
  good : ∀ l, (st l).2 ≠ 0 → isP ((st l).1 : Int) = true ∧ enc (st l).1 = l.take (st l).2 ∧ (st l).2 ≤ l.length
  back : ∀ (c : Nat) rest, isP (c : Int) = true → st (enc c ++ rest) = (c, (enc c).length)
  len : ∀ c, 1 ≤ (enc c).length ∧ (enc c).length ≤ 4

set_option maxRecDepth 100000 in
theorem code8 : Code e8 st8 := by
  refine ⟨fun l h => ?_, fun c rest h => ?_, fun c => ?_⟩
  · have hb0 := (l.getD 0 0).toNat_lt
    have hb1 := (l.getD 1 0).toNat_lt
    have hb2 := (l.getD 2 0).toNat_lt
    have hb3 := (l.getD 3 0).toNat_lt
    unfold st8 at h ⊢
    by_cases hl : l = []
    · rw [if_pos hl] at h; exact absurd rfl h
    rw [if_neg hl] at h ⊢
    by_cases hd : dN l = (65533, 1)
    · rw [if_pos hd] at h; exact absurd rfl h
    rw [if_neg hd] at h ⊢
    clear h
    unfold dN at hd ⊢
    unfold decodeN at hd ⊢
    split at hd
    · rename_i h1
      rw [if_pos h1]
      obtain ⟨b0, r, rfl⟩ := cons1 hl
      simp only [List.getD_cons_zero] at *
      refine ⟨isP_t.2 (by omega), ?_, by simp⟩
      simp only [List.take_succ_cons, List.take_zero]
      rw [u8_1 h1, bt_eq rfl]
    split at hd
    · rename_i h1 h2
      rw [if_neg h1, if_pos h2]
      split at hd
      · rename_i h3
        rw [if_pos h3]
        obtain ⟨b0, b1, r, rfl⟩ := cons2 (l := l) (by omega)
        simp only [List.getD_cons_zero, List.getD_cons_succ] at *
        refine ⟨isP_t.2 (by omega), ?_, by simp⟩
        simp only [List.take_succ_cons, List.take_zero]
        rw [u8_2 (by omega) (by omega), bt_eq (b := b0) (by omega), bt_eq (b := b1) (by omega)]
      · exact absurd rfl hd
    split at hd
    · rename_i h1 h2 h2'
      rw [if_neg h1, if_neg h2, if_pos h2']
      split at hd
      · rename_i h3
        rw [if_pos h3]
        obtain ⟨b0, b1, b2, r, rfl⟩ := cons3 (l := l) (by omega)
        simp only [List.getD_cons_zero, List.getD_cons_succ] at *
        refine ⟨isP_t.2 (by omega), ?_, by simp⟩
        simp only [List.take_succ_cons, List.take_zero]
        rw [u8_3 (by omega) (by omega), bt_eq (b := b0) (by omega), bt_eq (b := b1) (by omega), bt_eq (b := b2) (by omega)]
      · exact absurd rfl hd
    split at hd
    · rename_i h1 h2 h2' h2''
      rw [if_neg h1, if_neg h2, if_neg h2', if_pos h2'']
      split at hd
      · rename_i h3
        rw [if_pos h3]
        obtain ⟨b0, b1, b2, b3, r, rfl⟩ := cons4 (l := l) (by omega)
        simp only [List.getD_cons_zero, List.getD_cons_succ] at *
        refine ⟨isP_t.2 (by omega), ?_, by simp⟩
        simp only [List.take_succ_cons, List.take_zero]
        rw [u8_4 (by omega), bt_eq (b := b0) (by omega), bt_eq (b := b1) (by omega), bt_eq (b := b2) (by omega), bt_eq (b := b3) (by omega)]
      · exact absurd rfl hd
    · exact absurd rfl hd
  · have hp := isP_t.1 h
    by_cases c1 : c < 128
    · rw [u8_1 c1]
      have e : dN ([bt c] ++ rest) = (c, 1) := by
        unfold dN decodeN
        simp only [List.cons_append, List.nil_append, List.getD_cons_zero, bt_nat c (by omega)]
        rw [if_pos c1]
      unfold st8
      rw [if_neg (by simp), e, if_neg (by simp; omega)]
      rfl
    by_cases c2 : c < 2048
    · rw [u8_2 (by omega) c2]
      have e : dN ([bt (192 + c / 64), bt (128 + c % 64)] ++ rest) = (c, 2) := by
        unfold dN decodeN
        simp only [List.cons_append, List.nil_append, List.getD_cons_zero, List.getD_cons_succ, List.length_cons, bt_nat (192 + c / 64) (by omega), bt_nat (128 + c % 64) (by omega)]
        rw [if_neg (by omega), if_pos (by omega), if_pos (by omega)]
        exact pair_eq (by omega)
      unfold st8
      rw [if_neg (by simp), e, if_neg (by simp)]
      rfl
    by_cases c3 : c < 65536
    · rw [u8_3 (by omega) c3]
      have e : dN ([bt (224 + c / 4096), bt (128 + c / 64 % 64), bt (128 + c % 64)] ++ rest) = (c, 3) := by
        unfold dN decodeN
        simp only [List.cons_append, List.nil_append, List.getD_cons_zero, List.getD_cons_succ, List.length_cons, bt_nat (224 + c / 4096) (by omega), bt_nat (128 + c / 64 % 64) (by omega), bt_nat (128 + c % 64) (by omega)]
        rw [if_neg (by omega), if_neg (by omega), if_pos (by omega), if_pos (by omega)]
        exact pair_eq (by omega)
      unfold st8
      rw [if_neg (by simp), e, if_neg (by simp)]
      rfl
    · rw [u8_4 (by omega)]
      have e : dN ([bt (240 + c / 262144), bt (128 + c / 4096 % 64), bt (128 + c / 64 % 64), bt (128 + c % 64)] ++ rest) = (c, 4) := by
        unfold dN decodeN
        simp only [List.cons_append, List.nil_append, List.getD_cons_zero, List.getD_cons_succ, List.length_cons, bt_nat (240 + c / 262144) (by omega), bt_nat (128 + c / 4096 % 64) (by omega), bt_nat (128 + c / 64 % 64) (by omega), bt_nat (128 + c % 64) (by omega)]
        rw [if_neg (by omega), if_neg (by omega), if_neg (by omega), if_pos (by omega), if_pos (by omega)]
        exact pair_eq (by omega)
      unfold st8
      rw [if_neg (by simp), e, if_neg (by simp)]
      rfl
  · unfold e8
    repeat' split
    all_goals simp

set_option maxRecDepth 100000 in
theorem code16 : Code e16 st16 := by
  refine ⟨fun l h => ?_, fun c rest h => ?_, fun c => ?_⟩
  · unfold st16 at h ⊢
    split at h
    · exact absurd rfl h
    rename_i h1
    rw [if_neg h1]
    split at h
    · exact absurd rfl h
    rename_i h2
    rw [if_neg h2]
    split at h
    · rename_i h3
      rw [if_pos h3]
      obtain ⟨b0, b1, r, rfl⟩ := cons2 (l := l) (by omega)
      have hb0 := b0.toNat_lt
      have hb1 := b1.toNat_lt
      unfold un at *
      simp only [List.getD_cons_zero, List.getD_cons_succ] at *
      refine ⟨isP_t.2 (by omega), ?_, by simp⟩
      simp only [List.take_succ_cons, List.take_zero]
      unfold e16
      rw [if_pos (by omega), bt_eq (b := b0) (by omega), bt_eq (b := b1) (by omega)]
    rename_i h3
    rw [if_neg h3]
    split at h
    · exact absurd rfl h
    rename_i h4
    rw [if_neg h4]
    split at h
    · exact absurd rfl h
    rename_i h5
    rw [if_neg h5]
    obtain ⟨b0, b1, b2, b3, r, rfl⟩ := cons4 (l := l) (by omega)
    have hb0 := b0.toNat_lt
    have hb1 := b1.toNat_lt
    have hb2 := b2.toNat_lt
    have hb3 := b3.toNat_lt
    unfold un at *
    simp only [List.getD_cons_zero, List.getD_cons_succ, List.drop_succ_cons, List.drop_zero] at *
    refine ⟨isP_t.2 (by omega), ?_, by simp⟩
    simp only [List.take_succ_cons, List.take_zero]
    unfold e16
    rw [if_neg (by omega), bt_eq (b := b0) (by omega), bt_eq (b := b1) (by omega), bt_eq (b := b2) (by omega), bt_eq (b := b3) (by omega)]
  · have hp := isP_t.1 h
    unfold e16
    by_cases c1 : c < 65536
    · rw [if_pos c1]
      unfold st16 un
      simp only [List.cons_append, List.nil_append, List.getD_cons_zero, List.getD_cons_succ, List.length_cons, List.drop_succ_cons, List.drop_zero, bt_nat (c / 256) (by omega), bt_nat (c % 256) (by omega)]
      rw [if_neg (by omega), if_neg (by omega), if_pos (by omega)]
      exact pair_eq (by omega)
    · rw [if_neg c1]
      unfold st16 un
      simp only [List.cons_append, List.nil_append, List.getD_cons_zero, List.getD_cons_succ, List.length_cons, List.drop_succ_cons, List.drop_zero, bt_nat ((55296 + (c - 65536) / 1024) / 256) (by omega), bt_nat ((55296 + (c - 65536) / 1024) % 256) (by omega), bt_nat ((56320 + (c - 65536) % 1024) / 256) (by omega), bt_nat ((56320 + (c - 65536) % 1024) % 256) (by omega)]
      rw [if_neg (by omega), if_neg (by omega), if_neg (by omega), if_neg (by omega), if_neg (by omega)]
      exact pair_eq (by omega)
  · unfold e16
    split
    all_goals simp

/- writing a list -/
def encs (enc : Nat → List UInt8) (zs : List Int) : List UInt8 := zs.flatMap fun z => enc z.toNat
theorem encs_snoc (enc : Nat → List UInt8) (zs : List Int) (z : Int) : encs enc (zs ++ [z]) = encs enc zs ++ enc z.toNat := by simp [encs]
theorem encs_len {enc : Nat → List UInt8} {st : List UInt8 → Nat × Nat} (C : Code enc st) (zs : List Int) : zs.length ≤ (encs enc zs).length ∧ (encs enc zs).length ≤ 4 * zs.length := by
  induction zs with
  | nil => simp [encs]
  | cons z zs ih =>
    have := C.len z.toNat
    simp only [encs, List.flatMap_cons, List.length_append, List.length_cons] at ih ⊢
    omega

/- reading from the left: the list, the place, the error's number -/
def rdR (st : List UInt8 → Nat × Nat) : Nat → List UInt8 → Nat → List Int → List Int × Nat × Nat
  | 0, _, _, acc => (acc, 0, 0)
  | f + 1, l, p, acc => if l = [] then (acc, 0, 0) else if (st l).2 = 0 then ([], p, 40) else rdR st f (l.drop (st l).2) (p + (st l).2) (acc ++ [((st l).1 : Int)])
def rd (st : List UInt8 → Nat × Nat) (l : List UInt8) (p : Nat) : List Int × Nat × Nat := rdR st l.length l p []
theorem rdR_fuel (st : List UInt8 → Nat × Nat) : ∀ (f g : Nat) (l : List UInt8) (p : Nat) (acc : List Int), l.length ≤ f → l.length ≤ g → rdR st f l p acc = rdR st g l p acc := by
  intro f
  induction f with
  | zero =>
    intro g l p acc h1 _
    obtain rfl : l = [] := List.eq_nil_of_length_eq_zero (by omega)
    cases g <;> simp [rdR]
  | succ f ih =>
    intro g l p acc h1 h2
    by_cases hl : l = []
    · subst hl; cases g <;> simp [rdR]
    · have hpos : 0 < l.length := List.length_pos_iff.2 hl
      match g with
      | 0 => omega
      | g + 1 =>
        simp only [rdR, if_neg hl]
        by_cases h0 : (st l).2 = 0
        · rw [if_pos h0, if_pos h0]
        · rw [if_neg h0, if_neg h0]
          exact ih g _ _ _ (by rw [List.length_drop]; omega) (by rw [List.length_drop]; omega)
theorem rdR_len (st : List UInt8 → Nat × Nat) : ∀ (f : Nat) (l : List UInt8) (p : Nat) (acc : List Int), (rdR st f l p acc).1.length ≤ acc.length + f := by
  intro f
  induction f with
  | zero => intro l p acc; simp [rdR]
  | succ f ih =>
    intro l p acc
    unfold rdR
    split
    · simp only; omega
    split
    · simp
    · have := ih (l.drop (st l).2) (p + (st l).2) (acc ++ [((st l).1 : Int)])
      simp only [List.length_append, List.length_cons, List.length_nil] at this
      omega
theorem rd_len (st : List UInt8 → Nat × Nat) (l : List UInt8) (p : Nat) : (rd st l p).1.length ≤ l.length := by
  have := rdR_len st l.length l p []
  simpa [rd] using this
/- what is still to be read, where so much was -/
def Rd (st : List UInt8 → Nat × Nat) (l : List UInt8) (p : Nat) (acc : List Int) (R : List Int × Nat × Nat) : Prop := rdR st l.length l p acc = R
theorem Rd.start (st : List UInt8 → Nat × Nat) (l : List UInt8) (p : Nat) : Rd st l p [] (rd st l p) := rfl
theorem Rd.done {st : List UInt8 → Nat × Nat} {p : Nat} {acc : List Int} {R : List Int × Nat × Nat} (h : Rd st [] p acc R) : R = (acc, 0, 0) := h.symm
theorem Rd.bad {st : List UInt8 → Nat × Nat} {l : List UInt8} {p : Nat} {acc : List Int} {R : List Int × Nat × Nat} (h : Rd st l p acc R) (hl : l ≠ []) (h0 : (st l).2 = 0) : R = ([], p, 40) := by
  unfold Rd at h
  match l, hl, h, h0 with
  | b :: l, hl, h, h0 => rw [← h, List.length_cons, rdR, if_neg hl, if_pos h0]
theorem Rd.step {st : List UInt8 → Nat × Nat} {l : List UInt8} {p : Nat} {acc : List Int} {R : List Int × Nat × Nat} (h : Rd st l p acc R) (hl : l ≠ []) (h0 : (st l).2 ≠ 0) :
    Rd st (l.drop (st l).2) (p + (st l).2) (acc ++ [((st l).1 : Int)]) R := by
  unfold Rd at h ⊢
  have hpos : 0 < l.length := List.length_pos_iff.2 hl
  obtain ⟨n, hn⟩ : ∃ n, l.length = n + 1 := ⟨l.length - 1, by omega⟩
  rw [hn] at h
  rw [rdR, if_neg hl, if_neg h0] at h
  rw [← h]
  exact rdR_fuel st _ _ _ _ _ (Nat.le_refl _) (by rw [List.length_drop]; omega)
end Go.Proofs.YtpmdekhjodhdmaaDoor
