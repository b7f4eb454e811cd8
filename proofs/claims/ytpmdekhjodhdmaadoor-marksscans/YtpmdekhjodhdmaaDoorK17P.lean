/-
  A document's text in plain words: valid UTF-8 piece by piece; what a text, an entity, a name, a value, an attribute, a tag are, from the left; the tokens.
-/
import Derived.Test.YtpmdekhjodhdmaaDoorU4P
namespace Go.Proofs.YtpmdekhjodhdmaaDoor.K17
open Go.Lib Go.Proofs.YtpmdekhjodhdmaaDoor
set_option linter.unusedVariables false
set_option linter.unusedSimpArgs false

/- UTF-8, code point by code point -/
inductive Vt : List UInt8 → Prop
  | nil : Vt []
  | cons (c : Nat) (r : List UInt8) : isP (c : Int) = true → Vt r → Vt (e8 c ++ r)
theorem st_dN {l : List UInt8} (h : (st8 l).2 ≠ 0) : dN l = st8 l := by
  unfold st8 at h ⊢
  split at h
  · simp at h
  · split at h
    · simp at h
    · rename_i h1 h2; rw [if_neg h1, if_neg h2]
theorem dN_e8 (c : Nat) (r : List UInt8) (h : isP (c : Int) = true) : dN (e8 c ++ r) = (c, (e8 c).length) := by
  have hb := code8.back c r h
  have hl := (code8.len c).1
  rw [st_dN (by rw [hb]; simp only; omega), hb]
theorem e8_ne (c : Nat) : e8 c ≠ [] := by
  have := (code8.len c).1
  intro h; rw [h] at this; simp at this
/- below 128 a code point is its byte; from 128 on all its bytes are from 128 on -/
theorem e8_low {c : Nat} (h : c < 128) : e8 c = [bt c] := u8_1 h
theorem e8_high {c : Nat} (h : 128 ≤ c) (h2 : c ≤ 1114111) : ∀ b ∈ e8 c, 128 ≤ b.toNat := by
  intro b hb
  by_cases h3 : c < 2048
  · rw [u8_2 h h3] at hb
    simp only [List.mem_cons, List.not_mem_nil, or_false] at hb
    rcases hb with rfl | rfl <;> rw [bt_nat _ (by omega)] <;> omega
  · by_cases h4 : c < 65536
    · rw [u8_3 (by omega) h4] at hb
      simp only [List.mem_cons, List.not_mem_nil, or_false] at hb
      rcases hb with rfl | rfl | rfl <;> rw [bt_nat _ (by omega)] <;> omega
    · rw [u8_4 (by omega)] at hb
      simp only [List.mem_cons, List.not_mem_nil, or_false] at hb
      rcases hb with rfl | rfl | rfl | rfl <;> rw [bt_nat _ (by omega)] <;> omega
/- what stands at the beginning -/
theorem Vt.step {l : List UInt8} (h : Vt l) (hl : l ≠ []) : ∃ c r, l = e8 c ++ r ∧ isP (c : Int) = true ∧ Vt r ∧ dN l = (c, (e8 c).length) := by
  cases h with
  | nil => exact absurd rfl hl
  | cons c r hc hr => exact ⟨c, r, rfl, hc, hr, dN_e8 c r hc⟩
theorem Vt.low {b : UInt8} {r : List UInt8} (h : Vt (b :: r)) (hb : b.toNat < 128) : Vt r ∧ dN (b :: r) = (b.toNat, 1) := by
  obtain ⟨c, r', he, hc, hr, hd⟩ := h.step (by simp)
  have hp := isP_t.1 hc
  by_cases h1 : c < 128
  · rw [e8_low h1] at he hd
    simp only [List.cons_append, List.nil_append, List.cons.injEq] at he
    obtain ⟨rfl, rfl⟩ := he
    rw [bt_nat _ (by omega)] at hb ⊢
    exact ⟨hr, hd⟩
  · exfalso
    have h2 := e8_high (c := c) (by omega) (by omega) b (by
      have : (e8 c ++ r').head? = some b := by rw [← he]; rfl
      have hne := e8_ne c
      cases hq : e8 c with
      | nil => exact absurd hq hne
      | cons x y => rw [hq] at this; simp at this; rw [this]; simp)
    omega
theorem Vt.app {a b : List UInt8} (h : Vt a) (k : Vt b) : Vt (a ++ b) := by
  induction h with
  | nil => exact k
  | cons c r hc hr ih => rw [List.append_assoc]; exact .cons c _ hc ih
theorem Vt.unapp {a b : List UInt8} (h : Vt a) (k : Vt (a ++ b)) : Vt b := by
  induction h with
  | nil => exact k
  | cons c r hc hr ih =>
    apply ih
    rw [List.append_assoc] at k
    obtain ⟨c', r', he, hc', hr', hd⟩ := k.step (by simp [e8_ne])
    rw [dN_e8 c _ hc] at hd
    simp only [Prod.mk.injEq] at hd
    obtain ⟨rfl, _⟩ := hd
    rw [List.append_cancel_left he]
    exact hr'
theorem Vt.one {b : UInt8} (hb : b.toNat < 128) : Vt [b] := by
  have := Vt.cons b.toNat [] (isP_t.2 (by omega)) .nil
  rwa [e8_low hb, bt_eq rfl] at this
theorem Vt.cons1 {b : UInt8} {r : List UInt8} (hb : b.toNat < 128) (h : Vt r) : Vt (b :: r) := (Vt.one hb).app h
/- cut ahead of a byte below 128 -/
theorem Vt.cut {l : List UInt8} (h : Vt l) : ∀ k, (∀ b, l[k]? = some b → b.toNat < 128) → Vt (l.take k) ∧ Vt (l.drop k) := by
  induction h with
  | nil => intro k _; simp; exact .nil
  | cons c r hc hr ih =>
    intro k hk
    have hp := isP_t.1 hc
    by_cases h0 : k = 0
    · subst h0; simp; exact ⟨.nil, .cons c r hc hr⟩
    by_cases h1 : k < (e8 c).length
    · exfalso
      have hg : (e8 c ++ r)[k]? = some ((e8 c)[k]) := by rw [List.getElem?_append_left h1, List.getElem?_eq_getElem h1]
      have hb := hk _ hg
      by_cases h2 : c < 128
      · have : (e8 c).length = 1 := by rw [e8_low h2]; rfl
        omega
      · have := e8_high (c := c) (by omega) (by omega) _ (List.getElem_mem h1)
        omega
    · obtain ⟨j, rfl⟩ : ∃ j, k = (e8 c).length + j := ⟨k - (e8 c).length, by omega⟩
      obtain ⟨a1, a2⟩ := ih j (fun b hb => hk b (by rw [List.getElem?_append_right (by omega), show (e8 c).length + j - (e8 c).length = j by omega]; exact hb))
      rw [List.take_length_add_append, List.drop_length_add_append]
      exact ⟨.cons c _ hc a1, a2⟩

/- control characters -/
def ctl (c : Nat) : Bool := decide ((c < 32 ∧ c ≠ 9 ∧ c ≠ 10 ∧ c ≠ 13) ∨ (127 ≤ c ∧ c ≤ 159))
/- the number that decimal digits say -/
def dv (l : List UInt8) : Nat := l.foldl (fun a b => 10 * a + (b.toNat - 48)) 0
theorem dv_snoc (l : List UInt8) (b : UInt8) : dv (l ++ [b]) = 10 * dv l + (b.toNat - 48) := by simp [dv]
def dgB (b : UInt8) : Bool := decide (48 ≤ b.toNat ∧ b.toNat ≤ 57)
theorem dv_from : ∀ (l : List UInt8) (a : Nat), (∀ b ∈ l, dgB b = true) → l.foldl (fun a b => 10 * a + (b.toNat - 48)) a < (a + 1) * 10 ^ l.length
  | [], a, _ => by simp
  | b :: l, a, h => by
    have h2 : dgB b = true := h b (by simp)
    simp only [dgB, decide_eq_true_eq] at h2
    have h1 := dv_from l (10 * a + (b.toNat - 48)) (fun x hx => h x (by simp [hx]))
    rw [List.foldl_cons, List.length_cons, Nat.pow_succ]
    refine Nat.lt_of_lt_of_le h1 ?_
    rw [Nat.mul_comm (10 ^ l.length) 10, ← Nat.mul_assoc]
    exact Nat.mul_le_mul_right _ (by omega)
theorem dv_lt (l : List UInt8) (h : ∀ b ∈ l, dgB b = true) : dv l < 10 ^ l.length := by
  have := dv_from l 0 h
  unfold dv
  simpa using this
/- the character of a number -/
def numW (ds : List UInt8) : Option Nat :=
  if ds = [] ∨ ds.getD 0 0 = 48 ∨ 7 < ds.length ∨ ds.all dgB = false ∨ isP (dv ds : Int) = false ∨ ctl (dv ds) = true then none else some (dv ds)
/- what stands between & and ; -/
def entW (l : List UInt8) : Option Nat :=
  if l = [108, 116] then some 60 else if l = [103, 116] then some 62 else if l = [97, 109, 112] then some 38 else if l = [113, 117, 111, 116] then some 34
  else if l.getD 0 0 = 35 then numW (l.drop 1) else none
/- up to a byte -/
def upto (b : UInt8) (l : List UInt8) : List UInt8 := l.takeWhile (· != b)
/- the entity with which bytes begin: what it says, and its length -/
def ent (l : List UInt8) : Option (Nat × Nat) :=
  if (upto 59 (l.drop 1)).length = (l.drop 1).length then none else (entW (upto 59 (l.drop 1))).map fun c => (c, (upto 59 (l.drop 1)).length + 2)
/- a text with the characters that its entities say, or where the first fault is -/
def plF : Nat → List UInt8 → Nat → List UInt8 → Except Nat (List UInt8)
  | 0, _, _, acc => .ok acc
  | f + 1, l, p, acc =>
    if l = [] then .ok acc
    else if l.getD 0 0 = 38 then (match ent l with
      | none => .error p
      | some (c, n) => plF f (l.drop n) (p + n) (acc ++ e8 c))
    else if ctl (dN l).1 then .error p
    else plF f (l.drop (dN l).2) (p + (dN l).2) (acc ++ l.take (dN l).2)
def pl (l : List UInt8) : Except Nat (List UInt8) := plF l.length l 0 []
theorem upto_le (b : UInt8) (l : List UInt8) : (upto b l).length ≤ l.length := (List.takeWhile_prefix (fun x => x != b)).length_le
theorem ent_bd {l : List UInt8} {c n : Nat} (h : ent l = some (c, n)) : 2 ≤ n ∧ n ≤ l.length := by
  unfold ent at h
  have h1 := upto_le 59 (l.drop 1)
  rw [List.length_drop] at *
  split at h
  · simp at h
  · cases hq : entW (upto 59 (l.drop 1)) with
    | none => rw [hq] at h; simp at h
    | some x =>
      rw [hq] at h
      simp only [Option.map_some, Option.some.injEq, Prod.mk.injEq] at h
      omega
theorem numW_P {ds : List UInt8} {c : Nat} (h : numW ds = some c) : isP (c : Int) = true ∧ ctl c = false ∧ c ≠ 0 := by
  unfold numW at h
  split at h
  · simp at h
  · rename_i h1
    simp only [not_or, Bool.not_eq_false, Bool.not_eq_true] at h1
    simp only [Option.some.injEq] at h
    subst h
    refine ⟨h1.2.2.2.2.1, h1.2.2.2.2.2, ?_⟩
    intro h0
    have := h1.2.2.2.2.2
    rw [h0] at this
    exact absurd this (by decide)
theorem entW_P {l : List UInt8} {c : Nat} (h : entW l = some c) : isP (c : Int) = true ∧ ctl c = false := by
  unfold entW at h
  repeat' split at h
  all_goals first
    | (simp only [Option.some.injEq] at h; subst h; exact ⟨by decide, by decide⟩)
    | exact ⟨(numW_P h).1, (numW_P h).2.1⟩
    | simp at h
theorem ent_P {l : List UInt8} {c n : Nat} (h : ent l = some (c, n)) : isP (c : Int) = true ∧ ctl c = false := by
  unfold ent at h
  split at h
  · simp at h
  · cases hq : entW (upto 59 (l.drop 1)) with
    | none => rw [hq] at h; simp at h
    | some x =>
      rw [hq] at h
      simp only [Option.map_some, Option.some.injEq, Prod.mk.injEq] at h
      rw [← h.1]
      exact entW_P hq
/- what is still to be read of a text, and the answer -/
def PL (l : List UInt8) (p : Nat) (acc : List UInt8) (R : Except Nat (List UInt8)) : Prop := ∃ f, l.length ≤ f ∧ plF f l p acc = R
theorem dN_pos (l : List UInt8) (h : l ≠ []) : 1 ≤ (dN l).2 := by
  unfold dN decodeN
  repeat' split
  all_goals (simp only; omega)
theorem PL.start (l : List UInt8) : PL l 0 [] (pl l) := ⟨_, Nat.le_refl _, rfl⟩
theorem PL.done {p : Nat} {acc : List UInt8} {R : Except Nat (List UInt8)} (h : PL [] p acc R) : R = .ok acc := by
  obtain ⟨f, _, h⟩ := h
  cases f with
  | zero => exact h.symm
  | succ f => exact h.symm
theorem PL.unf {l : List UInt8} {p : Nat} {acc : List UInt8} {R : Except Nat (List UInt8)} (h : PL l p acc R) (hl : l ≠ []) : ∃ f, l.length ≤ f + 1 ∧ plF (f + 1) l p acc = R := by
  obtain ⟨f, h1, h2⟩ := h
  have := List.length_pos_iff.2 hl
  obtain ⟨g, rfl⟩ : ∃ g, f = g + 1 := ⟨f - 1, by omega⟩
  exact ⟨g, h1, h2⟩
theorem PL.none {l : List UInt8} {p : Nat} {acc : List UInt8} {R : Except Nat (List UInt8)} (h : PL l p acc R) (hl : l ≠ []) (h38 : l.getD 0 0 = 38) (he : ent l = none) : R = .error p := by
  obtain ⟨f, _, h2⟩ := h.unf hl
  rw [plF, if_neg hl, if_pos h38, he] at h2
  exact h2.symm
theorem PL.ent {l : List UInt8} {p c n : Nat} {acc : List UInt8} {R : Except Nat (List UInt8)} (h : PL l p acc R) (hl : l ≠ []) (h38 : l.getD 0 0 = 38) (he : ent l = some (c, n)) : PL (l.drop n) (p + n) (acc ++ e8 c) R := by
  obtain ⟨f, h1, h2⟩ := h.unf hl
  rw [plF, if_neg hl, if_pos h38, he] at h2
  have := ent_bd he
  exact ⟨f, by rw [List.length_drop]; omega, h2⟩
theorem PL.ctl {l : List UInt8} {p : Nat} {acc : List UInt8} {R : Except Nat (List UInt8)} (h : PL l p acc R) (hl : l ≠ []) (h38 : l.getD 0 0 ≠ 38) (he : ctl (dN l).1 = true) : R = .error p := by
  obtain ⟨f, _, h2⟩ := h.unf hl
  rw [plF, if_neg hl, if_neg h38, if_pos he] at h2
  exact h2.symm
theorem PL.step {l : List UInt8} {p : Nat} {acc : List UInt8} {R : Except Nat (List UInt8)} (h : PL l p acc R) (hl : l ≠ []) (h38 : l.getD 0 0 ≠ 38) (he : K17.ctl (dN l).1 = false) : PL (l.drop (dN l).2) (p + (dN l).2) (acc ++ l.take (dN l).2) R := by
  obtain ⟨f, h1, h2⟩ := h.unf hl
  rw [plF, if_neg hl, if_neg h38, if_neg (by rw [he]; simp)] at h2
  have := dN_pos l hl
  exact ⟨f, by rw [List.length_drop]; omega, h2⟩
theorem PL.uniq {l : List UInt8} {R : Except Nat (List UInt8)} (h : PL l 0 [] R) : pl l = R := by
  obtain ⟨f, h1, h2⟩ := h
  have key : ∀ (f g : Nat) (l : List UInt8) (p : Nat) (acc : List UInt8), l.length ≤ f → l.length ≤ g → plF f l p acc = plF g l p acc := by
    intro f
    induction f with
    | zero =>
      intro g l p acc h1 h2
      have : l = [] := List.length_eq_zero_iff.1 (by omega)
      subst this
      cases g <;> rfl
    | succ f ih =>
      intro g l p acc h1 h2
      by_cases hl : l = []
      · subst hl; cases g <;> rfl
      have hpos := List.length_pos_iff.2 hl
      obtain ⟨g, rfl⟩ : ∃ k, g = k + 1 := ⟨g - 1, by omega⟩
      rw [plF, plF, if_neg hl, if_neg hl]
      split
      · cases he : K17.ent l with
        | none => rfl
        | some x =>
          obtain ⟨c, n⟩ := x
          have := ent_bd he
          exact ih _ _ _ _ (by rw [List.length_drop]; omega) (by rw [List.length_drop]; omega)
      · split
        · rfl
        · have := dN_pos l hl
          exact ih _ _ _ _ (by rw [List.length_drop]; omega) (by rw [List.length_drop]; omega)
  exact (key _ _ _ _ _ (Nat.le_refl _) h1).trans h2
end Go.Proofs.YtpmdekhjodhdmaaDoor.K17
