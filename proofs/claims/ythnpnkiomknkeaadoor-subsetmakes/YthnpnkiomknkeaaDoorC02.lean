/-
  Joined: Hide, M9P, G10P, C11P.
-/
import Derived.WalkKit
namespace Go.Proofs.YthnpnkiomknkeaaDoor
open Go.RowKit
theorem hide {p : Prop} (h : p) : Hid p := h
end Go.Proofs.YthnpnkiomknkeaaDoor
namespace Go.Proofs.YthnpnkiomknkeaaDoor
def bt (l : List UInt8) (k : Nat) : Nat := (l.getD k 0).toNat
def n2 (l : List UInt8) (k : Nat) : Nat := bt l k * 256 + bt l (k + 1)
def s2 (l : List UInt8) (k : Nat) : Int := if n2 l k < 32768 then (n2 l k : Int) else (n2 l k : Int) - 65536
theorem bt_lt (l : List UInt8) (k : Nat) : bt l k < 256 := by unfold bt; exact UInt8.toNat_lt _
theorem n2_lt (l : List UInt8) (k : Nat) : n2 l k < 65536 := by
  have h1 := bt_lt l k; have h2 := bt_lt l (k + 1); unfold n2; omega
def wiB (lo hi : Int) (zs : List Int) : Bool := zs.all fun x => decide (lo ≤ x) && decide (x ≤ hi)
theorem wiB_one (lo hi x : Int) : wiB lo hi [x] = (decide (lo ≤ x) && decide (x ≤ hi)) := by simp [wiB]
theorem wiB_at {lo hi : Int} {zs : List Int} (h : wiB lo hi zs = true) {k : Nat} (hk : k < zs.length) : lo ≤ zs.getD k 0 ∧ zs.getD k 0 ≤ hi := by
  unfold wiB at h
  rw [List.all_eq_true] at h
  have := h zs[k] (List.getElem_mem hk)
  rw [List.getD_eq_getElem?_getD, List.getElem?_eq_getElem hk]
  simpa using this
theorem wiB_not {lo hi : Int} {zs : List Int} {k : Nat} (hk : k < zs.length) (h : ¬ (lo ≤ zs.getD k 0 ∧ zs.getD k 0 ≤ hi)) : wiB lo hi zs = false := by
  cases e : wiB lo hi zs with
  | false => rfl
  | true => exact absurd (wiB_at e hk) h
theorem wiB_of {lo hi : Int} {zs : List Int} (h : ∀ k, k < zs.length → lo ≤ zs.getD k 0 ∧ zs.getD k 0 ≤ hi) : wiB lo hi zs = true := by
  unfold wiB
  rw [List.all_eq_true]
  intro x hx
  obtain ⟨k, hk, rfl⟩ := List.getElem_of_mem hx
  have := h k hk
  rw [List.getD_eq_getElem?_getD, List.getElem?_eq_getElem hk] at this
  simpa using this
end Go.Proofs.YthnpnkiomknkeaaDoor
namespace Go.Proofs.YthnpnkiomknkeaaDoor.G10
set_option linter.unusedVariables false
def n4 (l : List UInt8) (k : Nat) : Nat := n2 l k * 65536 + n2 l (k + 2)
def hb (f m : Nat) : Bool := !decide (f &&& m = 0)
def wid (f one non : Nat) : Nat := if hb f one then 1 else if hb f non then 0 else 2
def wxy (f : Nat) : Nat := wid f 2 16 + wid f 4 32
theorem wid_le (f a b : Nat) : wid f a b ≤ 2 := by unfold wid; split <;> (try split) <;> omega
theorem wxy_le (f : Nat) : wxy f ≤ 4 := by have := wid_le f 2 16; have := wid_le f 4 32; unfold wxy; omega
def flg (l : List UInt8) (N : Nat) : Nat → Nat → Nat → Nat → Option (Nat × Nat)
  | 0, left, a, z => if left = 0 then some (a, z) else none
  | m + 1, left, a, z =>
    if left = 0 then some (a, z) else
    if a < N then
      if hb (bt l a) 8 then
        if a + 1 < N then
          if bt l (a + 1) + 1 ≤ left then flg l N m (left - (bt l (a + 1) + 1)) (a + 2) (z + (bt l (a + 1) + 1) * wxy (bt l a)) else none
        else none
      else flg l N m (left - 1) (a + 1) (z + wxy (bt l a))
    else none
theorem flg_zero (l : List UInt8) (N m a z : Nat) : flg l N m 0 a z = some (a, z) := by cases m <;> simp [flg]
theorem flg_end (l : List UInt8) (N m left a z : Nat) (h : left ≠ 0) (ha : ¬ a < N) : flg l N m left a z = none := by cases m <;> simp [flg, h, ha]
theorem flg_one (l : List UInt8) (N m left a z : Nat) (h : left ≠ 0) (ha : a < N) (hb8 : hb (bt l a) 8 = false) : flg l N (m + 1) left a z = flg l N m (left - 1) (a + 1) (z + wxy (bt l a)) := by
  simp [flg, h, ha, hb8]
theorem flg_short (l : List UInt8) (N m left a z : Nat) (h : left ≠ 0) (hb8 : hb (bt l a) 8 = true) (ha1 : ¬ a + 1 < N) : flg l N m left a z = none := by
  cases m
  · simp [flg, h]
  · simp [flg, h, hb8, ha1]
theorem flg_many (l : List UInt8) (N m left a z : Nat) (h : left ≠ 0) (hb8 : hb (bt l a) 8 = true) (ha1 : a + 1 < N) (hk : bt l (a + 1) + 1 ≤ left) : flg l N (m + 1) left a z = flg l N m (left - (bt l (a + 1) + 1)) (a + 2) (z + (bt l (a + 1) + 1) * wxy (bt l a)) := by
  have : a < N := by omega
  simp [flg, h, hb8, ha1, this]
  omega
theorem flg_over (l : List UInt8) (N m left a z : Nat) (h : left ≠ 0) (hb8 : hb (bt l a) 8 = true) (hk : ¬ bt l (a + 1) + 1 ≤ left) : flg l N m left a z = none := by
  cases m
  · simp [flg, h]
  · simp [flg, h, hb8]
    omega
theorem flg_bd (l : List UInt8) (N : Nat) : ∀ (m left a z : Nat) (r : Nat × Nat), flg l N m left a z = some r → a ≤ r.1 ∧ (a ≤ N → r.1 ≤ N) ∧ r.2 ≤ z + 4 * left := by
  intro m
  induction m with
  | zero =>
    intro left a z r h
    by_cases h0 : left = 0
    · simp [flg, h0] at h; subst h; omega
    · simp [flg, h0] at h
  | succ m ih =>
    intro left a z r h
    by_cases h0 : left = 0
    · simp [flg, h0] at h; subst h; omega
    by_cases ha : a < N
    · cases h8 : hb (bt l a) 8
      · rw [flg_one l N m left a z h0 ha h8] at h
        have := ih _ _ _ _ h
        have := wxy_le (bt l a)
        omega
      · by_cases ha1 : a + 1 < N
        · by_cases hk : bt l (a + 1) + 1 ≤ left
          · rw [flg_many l N m left a z h0 h8 ha1 hk] at h
            have h1 := ih _ _ _ _ h
            have h2 : (bt l (a + 1) + 1) * wxy (bt l a) ≤ (bt l (a + 1) + 1) * 4 := Nat.mul_le_mul_left _ (wxy_le _)
            omega
          · rw [flg_over l N _ left a z h0 h8 hk] at h; cases h
        · rw [flg_short l N _ left a z h0 h8 ha1] at h; cases h
    · rw [flg_end l N _ left a z h0 ha] at h; cases h
def riseB (l : List UInt8) (c : Nat) : Bool := (List.range (c - 1)).all fun i => decide (n2 l (10 + 2 * i) < n2 l (12 + 2 * i))
theorem rise_iff (l : List UInt8) (c : Nat) : riseB l c = true ↔ ∀ i, i + 1 < c → n2 l (10 + 2 * i) < n2 l (12 + 2 * i) := by
  unfold riseB
  rw [List.all_eq_true]
  constructor
  · intro h i hi
    simpa using h i (by simp; omega)
  · intro h i hi
    simp at hi
    simpa using h i (by omega)
def tailB (l : List UInt8) (a : Nat) : Bool := decide (a ≤ l.length) && (l.drop a).all (fun c => c.toNat == 0)
def simV (l : List UInt8) (c : Nat) : Option Nat :=
  if 12 + 2 * c ≤ l.length ∧ riseB l c = true then
    match flg l l.length (n2 l (8 + 2 * c) + 1) (n2 l (8 + 2 * c) + 1) (12 + 2 * c + n2 l (10 + 2 * c)) 0 with
    | none => none
    | some (a, z) => if tailB l (a + z) then some (n2 l (8 + 2 * c) + 1) else none
  else none
def mtx (f : Nat) : Option Nat := if f &&& 200 = 8 then some 2 else if f &&& 200 = 64 then some 4 else if f &&& 200 = 128 then some 8 else if f &&& 200 = 0 then some 0 else none
def offs (f : Nat) : Nat := if hb f 1 then 4 else 2
theorem mtx_le {f k : Nat} (h : mtx f = some k) : k ≤ 8 := by
  unfold mtx at h
  repeat' split at h
  all_goals first | (cases h; done) | (injection h; omega)
theorem offs_bd (f : Nat) : 2 ≤ offs f ∧ offs f ≤ 4 := by unfold offs; split <;> omega
def cmpA (l : List UInt8) (N : Nat) : Nat → Nat → List Nat → Option (List Nat × Nat)
  | 0, _, _ => none
  | m + 1, a, acc =>
    if a + 4 ≤ N then
      match mtx (n2 l a) with
      | none => none
      | some k =>
        if a + 4 + offs (n2 l a) + k ≤ N then
          if hb (n2 l a) 32 then cmpA l N m (a + 4 + offs (n2 l a) + k) (acc ++ [a + 2])
          else if hb (n2 l a) 256 then
            if a + 4 + offs (n2 l a) + k + 2 ≤ N ∧ a + 4 + offs (n2 l a) + k + 2 + n2 l (a + 4 + offs (n2 l a) + k) ≤ N then some (acc ++ [a + 2], a + 4 + offs (n2 l a) + k + 2 + n2 l (a + 4 + offs (n2 l a) + k)) else none
          else some (acc ++ [a + 2], a + 4 + offs (n2 l a) + k)
        else none
    else none
def comV (l : List UInt8) : Option (List Nat) :=
  match cmpA l l.length 64 10 [] with
  | none => none
  | some (ps, e) => if tailB l e then some ps else none
def shV (l : List UInt8) : Option (Nat × List Nat) :=
  if l.length = 0 then some (0, [])
  else if l.length < 10 then none
  else if n2 l 0 = 65535 then (comV l).map fun ps => (0, ps)
  else if 1 ≤ n2 l 0 ∧ n2 l 0 ≤ 32767 then (simV l (n2 l 0)).map fun p => (p, [])
  else none
theorem cmp_bd (l : List UInt8) (N : Nat) : ∀ (m a : Nat) (acc : List Nat) (r : List Nat × Nat), cmpA l N m a acc = some r → (∀ x ∈ acc, x + 2 ≤ N) → (∀ x ∈ r.1, x + 2 ≤ N) ∧ r.1.length ≤ acc.length + m ∧ r.2 ≤ N := by
  intro m
  induction m with
  | zero => intro a acc r h; simp [cmpA] at h
  | succ m ih =>
    intro a acc r h hacc
    unfold cmpA at h
    split at h
    case isFalse => cases h
    case isTrue h4 =>
      have hacc' : ∀ x ∈ acc ++ [a + 2], x + 2 ≤ N := by
        intro x hx
        rcases List.mem_append.1 hx with hx | hx
        · exact hacc x hx
        · simp at hx; omega
      split at h
      case h_1 => cases h
      case h_2 k hk =>
        split at h
        case isFalse => cases h
        case isTrue hN =>
          split at h
          case isTrue =>
            have := ih _ _ _ h hacc'
            simp at this
            exact ⟨this.1, by omega, this.2.2⟩
          case isFalse =>
            split at h
            case isTrue =>
              split at h
              case isTrue hh => injection h with h; subst h; exact ⟨hacc', by simp, hh.2⟩
              case isFalse => cases h
            case isFalse => injection h with h; subst h; exact ⟨hacc', by simp, hN⟩
theorem shV_bd {l : List UInt8} {p : Nat} {ps : List Nat} (h : shV l = some (p, ps)) : p ≤ 65536 ∧ (∀ x ∈ ps, x + 2 ≤ l.length) ∧ ps.length ≤ 64 := by
  unfold shV at h
  split at h
  · injection h with h; injection h with h1 h2; subst h1; subst h2; simp
  split at h
  · cases h
  split at h
  · unfold comV at h
    split at h
    · simp at h
    · rename_i ps' e hc
      split at h
      · simp at h
        obtain ⟨rfl, rfl⟩ := h
        have := cmp_bd l _ _ _ _ _ hc (by simp)
        simp at this
        exact ⟨by omega, this.1, this.2.1⟩
      · simp at h
  split at h
  · unfold simV at h
    have hn := n2_lt l (8 + 2 * n2 l 0)
    split at h
    · split at h
      · simp at h
      · split at h
        · simp at h
          obtain ⟨rfl, rfl⟩ := h
          simp
          omega
        · simp at h
    · simp at h
  · cases h
theorem and_mod (f m : Nat) (hm : m < 256) : f &&& m = (f % 256) &&& m := by
  apply Nat.eq_of_testBit_eq
  intro i
  rw [Nat.testBit_and, Nat.testBit_and, show (256 : Nat) = 2 ^ 8 from rfl, Nat.testBit_mod_two_pow]
  by_cases hi : i < 8
  · simp [hi]
  · have : m.testBit i = false := Nat.testBit_lt_two_pow (Nat.lt_of_lt_of_le hm (by
      have : 2 ^ 8 ≤ 2 ^ i := Nat.pow_le_pow_right (by omega) (by omega)
      simpa using this))
    simp [this]
def mtxB (a b c : Bool) : Option Nat := if a then (if b || c then none else some 2) else if b then (if c then none else some 4) else if c then some 8 else some 0
theorem mtx_256 : ∀ x, x < 256 → mtx x = mtxB (hb x 8) (hb x 64) (hb x 128) := by decide +kernel
theorem mtx_bits (f : Nat) : mtx f = mtxB (hb f 8) (hb f 64) (hb f 128) := by
  have h := mtx_256 (f % 256) (Nat.mod_lt _ (by omega))
  unfold mtx hb at *
  rw [and_mod f 200 (by omega), and_mod f 8 (by omega), and_mod f 64 (by omega), and_mod f 128 (by omega)]
  exact h
def numV (l : List UInt8) : Nat := l.foldl (fun x c => x * 256 + c.toNat) 0
theorem numV_snoc (l : List UInt8) (c : UInt8) : numV (l ++ [c]) = numV l * 256 + c.toNat := by simp [numV]
theorem numV_lt : ∀ (l : List UInt8), numV l < 256 ^ l.length := by
  intro l
  rw [← List.reverse_reverse l]
  generalize l.reverse = r
  induction r with
  | nil => simp [numV]
  | cons c r ih =>
    rw [List.reverse_cons, numV_snoc, List.length_append, List.length_singleton, Nat.pow_succ]
    have := c.toNat_lt
    omega
end Go.Proofs.YthnpnkiomknkeaaDoor.G10
namespace Go.Proofs.YthnpnkiomknkeaaDoor.C11
set_option linter.unusedVariables false
def isP (c : Int) : Bool := decide (0 ≤ c ∧ c ≤ 1114111 ∧ ¬ (55296 ≤ c ∧ c ≤ 57343))
theorem isP_t {c : Int} : isP c = true ↔ (0 ≤ c ∧ c ≤ 1114111 ∧ ¬ (55296 ≤ c ∧ c ≤ 57343)) := by unfold isP; exact decide_eq_true_iff
theorem isP_f {c : Int} : isP c = false ↔ ¬ (0 ≤ c ∧ c ≤ 1114111 ∧ ¬ (55296 ≤ c ∧ c ≤ 57343)) := by unfold isP; exact decide_eq_false_iff_not
structure Ch where
  f : Int
  l : Int
  g : Int
def c0 : Ch := ⟨0, 0, 0⟩
def hpB (x : Ch) : Bool := isP x.f && isP x.l && (decide (x.f < 55296) == decide (x.l < 55296))
def fitB (x : Ch) (n : Int) : Bool := decide (x.f ≤ x.l ∧ 0 ≤ x.f ∧ x.l ≤ 1114111 ∧ ¬ (x.f ≤ 57343 ∧ 55296 ≤ x.l) ∧ 1 ≤ x.g ∧ x.g < n ∧ x.l - x.f < n - x.g)
theorem fitB_hp {x : Ch} {n : Int} : fitB x n = true ↔ (x.f ≤ x.l ∧ hpB x = true ∧ 1 ≤ x.g ∧ x.g < n ∧ x.l - x.f < n - x.g) := by
  unfold fitB hpB
  rw [decide_eq_true_iff, Bool.and_eq_true, Bool.and_eq_true, isP_t, isP_t, beq_iff_eq, decide_eq_decide]
  constructor
  · intro h; refine ⟨by omega, ⟨⟨by omega, by omega⟩, by omega⟩, by omega, by omega, by omega⟩
  · rintro ⟨h1, ⟨⟨h2, h3⟩, h4⟩, h5, h6, h7⟩; refine ⟨by omega, by omega, by omega, by omega, by omega, by omega, by omega⟩
theorem fitB_t {x : Ch} {n : Int} : fitB x n = true ↔ (x.f ≤ x.l ∧ 0 ≤ x.f ∧ x.l ≤ 1114111 ∧ ¬ (x.f ≤ 57343 ∧ 55296 ≤ x.l) ∧ 1 ≤ x.g ∧ x.g < n ∧ x.l - x.f < n - x.g) := by unfold fitB; exact decide_eq_true_iff
theorem fitB_f {x : Ch} {n : Int} : fitB x n = false ↔ ¬ (x.f ≤ x.l ∧ 0 ≤ x.f ∧ x.l ≤ 1114111 ∧ ¬ (x.f ≤ 57343 ∧ 55296 ≤ x.l) ∧ 1 ≤ x.g ∧ x.g < n ∧ x.l - x.f < n - x.g) := by unfold fitB; exact decide_eq_false_iff_not
def goB (x : Ch) (c g : Int) : Bool := decide (c = x.l + 1 ∧ g = x.g + x.l - x.f + 1)
theorem goB_t {x : Ch} {c g : Int} : goB x c g = true ↔ (c = x.l + 1 ∧ g = x.g + x.l - x.f + 1) := by unfold goB; exact decide_eq_true_iff
theorem goB_f {x : Ch} {c g : Int} : goB x c g = false ↔ ¬ (c = x.l + 1 ∧ g = x.g + x.l - x.f + 1) := by unfold goB; exact decide_eq_false_iff_not
def nxB (x y : Ch) : Bool := !(decide (y.f ≤ x.l) || goB x y.f y.g)
def okB (cs : List Ch) (n : Int) (i : Nat) : Bool := fitB (cs.getD i c0) n && (decide (i = 0) || nxB (cs.getD (i - 1) c0) (cs.getD i c0))
def gooB (cs : List Ch) (n : Int) : Bool := decide (cs.length ≤ 4096) && (List.range cs.length).all (okB cs n)
theorem gooB_iff {cs : List Ch} {n : Int} : gooB cs n = true ↔ cs.length ≤ 4096 ∧ ∀ i, i < cs.length → okB cs n i = true := by
  unfold gooB
  rw [Bool.and_eq_true, decide_eq_true_iff, List.all_eq_true]
  simp
theorem gooB_no {cs : List Ch} {n : Int} {i : Nat} (hi : i < cs.length) (h : okB cs n i = false) : gooB cs n = false := by
  cases e : gooB cs n with
  | false => rfl
  | true => rw [(gooB_iff.1 e).2 i hi] at h; cases h
theorem gooB_long {cs : List Ch} {n : Int} (h : ¬ cs.length ≤ 4096) : gooB cs n = false := by
  unfold gooB; rw [decide_eq_false h]; rfl
end Go.Proofs.YthnpnkiomknkeaaDoor.C11
