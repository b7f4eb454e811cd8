/-
  Spans of code points and the tables that map them, in plain words. Pure.
-/
import Derived.Test.YthgpchjkeidilaaM9P
namespace Go.Proofs.Ythgpchjkeidilaa
set_option linter.unusedVariables false

def n4 (l : List UInt8) (k : Nat) : Nat := n2 l k * 65536 + n2 l (k + 2)
theorem n4_lt (l : List UInt8) (k : Nat) : n4 l k < 4294967296 := by
  have h1 := n2_lt l k; have h2 := n2_lt l (k + 2); unfold n4; omega
def isP (c : Int) : Bool := decide (0 ≤ c ∧ c ≤ 1114111 ∧ ¬ (55296 ≤ c ∧ c ≤ 57343))
theorem isP_t {c : Int} : isP c = true ↔ (0 ≤ c ∧ c ≤ 1114111 ∧ ¬ (55296 ≤ c ∧ c ≤ 57343)) := by unfold isP; exact decide_eq_true_iff
theorem isP_f {c : Int} : isP c = false ↔ ¬ (0 ≤ c ∧ c ≤ 1114111 ∧ ¬ (55296 ≤ c ∧ c ≤ 57343)) := by unfold isP; exact decide_eq_false_iff_not

/- a span: its first and last code points, the first one's glyph -/
structure Ch where
  f : Int
  l : Int
  g : Int
def c0 : Ch := ⟨0, 0, 0⟩
def hpB (x : Ch) : Bool := isP x.f && isP x.l && (decide (x.f < 55296) == decide (x.l < 55296))
def fitB (x : Ch) (n : Int) : Bool := decide (x.f ≤ x.l ∧ 0 ≤ x.f ∧ x.l ≤ 1114111 ∧ ¬ (x.f ≤ 57343 ∧ 55296 ≤ x.l) ∧ 1 ≤ x.g ∧ x.g < n ∧ x.l - x.f < n - x.g)
theorem fitB_hp {x : Ch} {n : Int} : fitB x n = true ↔ (x.f ≤ x.l ∧ hpB x = true ∧ 1 ≤ x.g ∧ x.g < n ∧ x.l - x.f < n - x.g) := by
  unfold fitB hpB
  rw [decide_eq_true_iff, Bool.and_eq_true, Bool.and_eq_true, isP_t, isP_t, beq_iff_eq, decide_eq_decide]
  constructor
  · intro h; refine ⟨by omega, ⟨⟨by omega, by omega⟩, by omega⟩, by omega, by omega, by omega⟩
  · rintro ⟨h1, ⟨⟨h2, h3⟩, h4⟩, h5, h6, h7⟩; refine ⟨by omega, by omega, by omega, by omega, by omega, by omega, by omega⟩
theorem fitB_t {x : Ch} {n : Int} : fitB x n = true ↔ (x.f ≤ x.l ∧ 0 ≤ x.f ∧ x.l ≤ 1114111 ∧ ¬ (x.f ≤ 57343 ∧ 55296 ≤ x.l) ∧ 1 ≤ x.g ∧ x.g < n ∧ x.l - x.f < n - x.g) := by unfold fitB; exact decide_eq_true_iff
theorem fitB_f {x : Ch} {n : Int} : fitB x n = false ↔ ¬ (x.f ≤ x.l ∧ 0 ≤ x.f ∧ x.l ≤ 1114111 ∧ ¬ (x.f ≤ 57343 ∧ 55296 ≤ x.l) ∧ 1 ≤ x.g ∧ x.g < n ∧ x.l - x.f < n - x.g) := by unfold fitB; exact decide_eq_false_iff_not
/- does a code with its glyph go on where a span ends? -/
def goB (x : Ch) (c g : Int) : Bool := decide (c = x.l + 1 ∧ g = x.g + x.l - x.f + 1)
theorem goB_t {x : Ch} {c g : Int} : goB x c g = true ↔ (c = x.l + 1 ∧ g = x.g + x.l - x.f + 1) := by unfold goB; exact decide_eq_true_iff
theorem goB_f {x : Ch} {c g : Int} : goB x c g = false ↔ ¬ (c = x.l + 1 ∧ g = x.g + x.l - x.f + 1) := by unfold goB; exact decide_eq_false_iff_not
def nxB (x y : Ch) : Bool := !(decide (y.f ≤ x.l) || goB x y.f y.g)
def okB (cs : List Ch) (n : Int) (i : Nat) : Bool := fitB (cs.getD i c0) n && (decide (i = 0) || nxB (cs.getD (i - 1) c0) (cs.getD i c0))
def gooB (cs : List Ch) (n : Int) : Bool := decide (cs.length ≤ 4096) && (List.range cs.length).all (okB cs n)
theorem gooB_iff {cs : List Ch} {n : Int} : gooB cs n = true ↔ cs.length ≤ 4096 ∧ ∀ i, i < cs.length → okB cs n i = true := by
  unfold gooB
  rw [Bool.and_eq_true, decide_eq_true_iff, List.all_eq_true]
  simp
theorem gooB_no {cs : List Ch} {n : Int} {i : Nat} (hi : i < cs.length) (h : okB cs n i = false) : gooB cs n = false := by
  cases e : gooB cs n with
  | false => rfl
  | true => rw [(gooB_iff.1 e).2 i hi] at h; cases h
theorem gooB_long {cs : List Ch} {n : Int} (h : ¬ cs.length ≤ 4096) : gooB cs n = false := by
  unfold gooB; rw [decide_eq_false h]; rfl

/- a code point's glyph -/
def hit (x : Ch) (c : Int) : Bool := decide (x.f ≤ c ∧ c ≤ x.l)
def hitV (x : Ch) (c : Int) : Int := if 1 ≤ x.g + c - x.f ∧ x.g + c - x.f ≤ 4095 then x.g + c - x.f else 0
def finV : List Ch → Int → Int
  | [], _ => 0
  | x :: r, c => if hit x c then hitV x c else finV r c
theorem finV_cons (x : Ch) (r : List Ch) (c : Int) : finV (x :: r) c = if hit x c then hitV x c else finV r c := rfl
theorem dropC (cs : List Ch) (k : Nat) (h : k < cs.length) : cs.drop k = cs.getD k c0 :: cs.drop (k + 1) := by
  rw [List.drop_eq_getElem_cons h, List.getD_eq_getElem?_getD, List.getElem?_eq_getElem h]; rfl

/- a code more, that is shown by a glyph -/
def newC (cs : List Ch) (c g : Int) : Option (List Ch) := if cs.length < 4096 then some (cs ++ [⟨c, c, g⟩]) else none
def addC (cs : List Ch) (c g : Int) : Option (List Ch) :=
  if g = 0 then some cs else
  match cs.getLast? with
  | some x => if goB x c g then some (cs.dropLast ++ [⟨x.f, c, x.g⟩]) else newC cs c g
  | none => newC cs c g
theorem addC_zero (cs : List Ch) (c : Int) : addC cs c 0 = some cs := by unfold addC; rw [if_pos rfl]
theorem addC_nil (c g : Int) (h : g ≠ 0) : addC [] c g = some [⟨c, c, g⟩] := by
  unfold addC; rw [if_neg h]; simp [newC]
theorem addC_go (cs : List Ch) (x : Ch) (c g : Int) (h : g ≠ 0) (hg : goB x c g = true) : addC (cs ++ [x]) c g = some (cs ++ [⟨x.f, c, x.g⟩]) := by
  unfold addC; rw [if_neg h]; simp [hg]
theorem addC_new (cs : List Ch) (x : Ch) (c g : Int) (h : g ≠ 0) (hg : goB x c g = false) (hl : cs.length + 1 < 4096) : addC (cs ++ [x]) c g = some (cs ++ [x] ++ [⟨c, c, g⟩]) := by
  unfold addC; rw [if_neg h]; simp [hg, newC, hl]
theorem addC_full (cs : List Ch) (x : Ch) (c g : Int) (h : g ≠ 0) (hg : goB x c g = false) (hl : ¬ cs.length + 1 < 4096) : addC (cs ++ [x]) c g = none := by
  unfold addC; rw [if_neg h]; simp [hg, newC, hl]
/- what holds of spans that were taken -/
def BD (cs : List Ch) : Prop := cs.length ≤ 4096 ∧ ∀ x ∈ cs, 0 ≤ x.f ∧ x.f ≤ x.l ∧ x.l ≤ 1114111 ∧ 1 ≤ x.g ∧ x.g ≤ 4294967296
theorem BD.nil : BD [] := ⟨by simp, fun x h => by cases h⟩
theorem BD.last {cs : List Ch} {x : Ch} (h : BD (cs ++ [x])) : cs.length + 1 ≤ 4096 ∧ 0 ≤ x.f ∧ x.f ≤ x.l ∧ x.l ≤ 1114111 ∧ 1 ≤ x.g ∧ x.g ≤ 4294967296 := by
  have h1 := h.1
  have h2 := h.2 x (by simp)
  simp at h1
  exact ⟨by omega, h2⟩
theorem BD.add {cs cs' : List Ch} {c g : Int} (h : BD cs) (hc0 : 0 ≤ c) (hc : c ≤ 1114111) (hg0 : 0 ≤ g) (hg : g ≤ 4294967296) (e : addC cs c g = some cs') : BD cs' := by
  by_cases hz : g = 0
  · subst hz; rw [addC_zero] at e; cases e; exact h
  rcases List.eq_nil_or_concat cs with rfl | ⟨ini, x, rfl⟩
  · rw [addC_nil c g hz] at e
    cases e
    refine ⟨by simp, fun y hy => ?_⟩
    simp at hy; subst hy
    exact ⟨hc0, Int.le_refl _, hc, show 1 ≤ g by omega, hg⟩
  · rw [List.concat_eq_append] at e h
    obtain ⟨l1, x1, x2, x3, x4, x5⟩ := h.last
    cases hgo : goB x c g
    · by_cases hl : ini.length + 1 < 4096
      · rw [addC_new ini x c g hz hgo hl] at e
        cases e
        refine ⟨by simp; omega, fun y hy => ?_⟩
        rcases List.mem_append.1 hy with hy | hy
        · exact h.2 y hy
        · simp at hy; subst hy
          exact ⟨hc0, Int.le_refl _, hc, show 1 ≤ g by omega, hg⟩
      · rw [addC_full ini x c g hz hgo hl] at e; cases e
    · rw [addC_go ini x c g hz hgo] at e
      cases e
      rw [goB_t] at hgo
      refine ⟨by simp; omega, fun y hy => ?_⟩
      rcases List.mem_append.1 hy with hy | hy
      · exact h.2 y (List.mem_append.2 (Or.inl hy))
      · simp at hy; subst hy
        exact ⟨x1, show x.f ≤ c by omega, hc, x4, x5⟩

/- format 12 -/
def stP (cs : List Ch) (c g : Int) : Option (List Ch) := if isP c then addC cs c g else some cs
theorem BD.stP {cs cs' : List Ch} {c g : Int} (h : BD cs) (hg0 : 0 ≤ g) (hg : g ≤ 4294967296) (e : stP cs c g = some cs') : BD cs' := by
  unfold Go.Proofs.Ythgpchjkeidilaa.stP at e
  cases hp : isP c
  · rw [hp] at e; simp at e; subst e; exact h
  · rw [hp] at e
    rw [isP_t] at hp
    exact BD.add (c := c) (g := g) h (by omega) (by omega) hg0 hg (by simpa using e)
def grpF (a g : Nat) (cs : List Ch) : Nat → Option (List Ch)
  | 0 => some cs
  | j + 1 => (grpF a g cs j).bind fun x => stP x ((a + j : Nat) : Int) ((g + j : Nat) : Int)
theorem grpF_none {a g : Nat} {cs : List Ch} {j : Nat} (h : grpF a g cs j = none) : ∀ d, grpF a g cs (j + d) = none
  | 0 => h
  | d + 1 => by rw [← Nat.add_assoc, grpF, grpF_none h d]; rfl
theorem grpF_end {a g : Nat} {cs : List Ch} {j k : Nat} (h : grpF a g cs j = none) (hk : j ≤ k) : grpF a g cs k = none := by
  have := grpF_none h (k - j)
  rwa [show j + (k - j) = k by omega] at this
def ga (s : List UInt8) (i : Nat) : Nat := n4 s (16 + 12 * i)
def gb (s : List UInt8) (i : Nat) : Nat := n4 s (20 + 12 * i)
def gg (s : List UInt8) (i : Nat) : Nat := n4 s (24 + 12 * i)
def lea (s : List UInt8) : Nat → Nat
  | 0 => 0
  | i + 1 => gb s i + 1
def okG (s : List UInt8) (n : Nat) (i : Nat) : Bool := decide (lea s i ≤ ga s i ∧ ga s i ≤ gb s i ∧ gb s i ≤ 1114111 ∧ gg s i + (gb s i - ga s i) < n)
def accG (s : List UInt8) : Nat → Option (List Ch)
  | 0 => some []
  | i + 1 => (accG s i).bind fun x => grpF (ga s i) (gg s i) x (gb s i - ga s i + 1)
theorem accG_none {s : List UInt8} {j : Nat} (h : accG s j = none) : ∀ d, accG s (j + d) = none
  | 0 => h
  | d + 1 => by rw [← Nat.add_assoc, accG, accG_none h d]; rfl
def twB (s : List UInt8) : Bool := decide (16 ≤ s.length ∧ s.take 4 = [0, 12, 0, 0] ∧ n4 s 12 ≤ 4096 ∧ n4 s 4 = 16 + 12 * n4 s 12 ∧ 16 + 12 * n4 s 12 ≤ s.length)
def twA (s : List UInt8) (n : Nat) : Bool := (List.range (n4 s 12)).all (okG s n)
def twV (s : List UInt8) (n : Nat) : Option (List Ch) := if twB s && twA s n then accG s (n4 s 12) else none
theorem twB_t {s : List UInt8} : twB s = true ↔ (16 ≤ s.length ∧ s.take 4 = [0, 12, 0, 0] ∧ n4 s 12 ≤ 4096 ∧ n4 s 4 = 16 + 12 * n4 s 12 ∧ 16 + 12 * n4 s 12 ≤ s.length) := by unfold twB; exact decide_eq_true_iff
theorem twA_iff {s : List UInt8} {n : Nat} : twA s n = true ↔ ∀ i, i < n4 s 12 → okG s n i = true := by
  unfold twA; rw [List.all_eq_true]; simp
theorem twV_head {s : List UInt8} {n : Nat} (h : twB s = false) : twV s n = none := by unfold twV; rw [h]; rfl
theorem twV_bad {s : List UInt8} {n i : Nat} (hi : i < n4 s 12) (h : okG s n i = false) : twV s n = none := by
  unfold twV
  cases e : twA s n with
  | false => rw [Bool.and_false]; rfl
  | true => rw [twA_iff.1 e i hi] at h; cases h
theorem twV_full {s : List UInt8} {n i : Nat} (hi : i ≤ n4 s 12) (h : accG s i = none) : twV s n = none := by
  unfold twV
  have := accG_none h (n4 s 12 - i)
  rw [show i + (n4 s 12 - i) = n4 s 12 by omega] at this
  rw [this]; simp
theorem twV_ok {s : List UInt8} {n : Nat} (h : twB s = true) (ha : ∀ i, i < n4 s 12 → okG s n i = true) : twV s n = accG s (n4 s 12) := by
  unfold twV; rw [h, twA_iff.2 ha]; rfl

/- format 4 -/
def sa (s : List UInt8) (m i : Nat) : Nat := n2 s (16 + 2 * m + 2 * i)
def sb (s : List UInt8) (i : Nat) : Nat := n2 s (14 + 2 * i)
def sdl (s : List UInt8) (m i : Nat) : Nat := n2 s (16 + 4 * m + 2 * i)
def spl (m i : Nat) : Nat := 16 + 6 * m + 2 * i
def sof (s : List UInt8) (m i : Nat) : Nat := n2 s (spl m i)
def glV (s : List UInt8) (m i c : Nat) : Option Nat :=
  if sof s m i = 0 then some ((c + sdl s m i) % 65536) else
  if sof s m i % 2 ≠ 0 ∨ s.length < spl m i + sof s m i + 2 * (c - sa s m i) + 2 then none else
  if n2 s (spl m i + sof s m i + 2 * (c - sa s m i)) = 0 then some 0 else
  some ((n2 s (spl m i + sof s m i + 2 * (c - sa s m i)) + sdl s m i) % 65536)
def stS (s : List UInt8) (m n i : Nat) (cs : List Ch) (c : Nat) : Option (List Ch) :=
  if c = 65535 ∨ isP (c : Int) = false then some cs else
  match glV s m i c with
  | none => none
  | some g => if g < n then addC cs (c : Int) (g : Int) else none
def segF (s : List UInt8) (m n i : Nat) (cs : List Ch) : Nat → Option (List Ch)
  | 0 => some cs
  | j + 1 => (segF s m n i cs j).bind fun x => stS s m n i x (sa s m i + j)
theorem segF_none {s : List UInt8} {m n i : Nat} {cs : List Ch} {j : Nat} (h : segF s m n i cs j = none) : ∀ d, segF s m n i cs (j + d) = none
  | 0 => h
  | d + 1 => by rw [← Nat.add_assoc, segF, segF_none h d]; rfl
theorem segF_end {s : List UInt8} {m n i : Nat} {cs : List Ch} {j k : Nat} (h : segF s m n i cs j = none) (hk : j ≤ k) : segF s m n i cs k = none := by
  have := segF_none h (k - j)
  rwa [show j + (k - j) = k by omega] at this
def leS (s : List UInt8) : Nat → Nat
  | 0 => 0
  | i + 1 => sb s i + 1
def okS (s : List UInt8) (m i : Nat) : Bool := decide (leS s i ≤ sa s m i ∧ sa s m i ≤ sb s i)
def accS (s : List UInt8) (m n : Nat) : Nat → Option (List Ch)
  | 0 => some []
  | i + 1 => (accS s m n i).bind fun x => segF s m n i x (sb s i - sa s m i + 1)
theorem accS_none {s : List UInt8} {m n j : Nat} (h : accS s m n j = none) : ∀ d, accS s m n (j + d) = none
  | 0 => h
  | d + 1 => by rw [← Nat.add_assoc, accS, accS_none h d]; rfl
def foB (s : List UInt8) : Bool := decide (16 ≤ s.length ∧ s.take 2 = [0, 4] ∧ n2 s 6 % 2 = 0 ∧ 1 ≤ n2 s 6 / 2 ∧ 16 + 8 * (n2 s 6 / 2) ≤ n2 s 2 ∧ n2 s 2 ≤ s.length)
def foA (s : List UInt8) (m : Nat) : Bool := (List.range m).all (okS s m) && decide (leS s m = 65536)
def foW (s : List UInt8) (m n : Nat) : Option (List Ch) := if foA s m then accS s m n m else none
def foV (s : List UInt8) (n : Nat) : Option (List Ch) := if foB s then foW (s.take (n2 s 2)) (n2 s 6 / 2) n else none
theorem foB_t {s : List UInt8} : foB s = true ↔ (16 ≤ s.length ∧ s.take 2 = [0, 4] ∧ n2 s 6 % 2 = 0 ∧ 1 ≤ n2 s 6 / 2 ∧ 16 + 8 * (n2 s 6 / 2) ≤ n2 s 2 ∧ n2 s 2 ≤ s.length) := by unfold foB; exact decide_eq_true_iff
theorem foA_iff {s : List UInt8} {m : Nat} : foA s m = true ↔ (∀ i, i < m → okS s m i = true) ∧ leS s m = 65536 := by
  unfold foA; rw [Bool.and_eq_true, List.all_eq_true, decide_eq_true_iff]; simp
theorem foW_bad {s : List UInt8} {m n i : Nat} (hi : i < m) (h : okS s m i = false) : foW s m n = none := by
  unfold foW
  cases e : foA s m with
  | false => rfl
  | true => rw [(foA_iff.1 e).1 i hi] at h; cases h
theorem foW_last {s : List UInt8} {m n : Nat} (h : leS s m ≠ 65536) : foW s m n = none := by
  unfold foW
  cases e : foA s m with
  | false => rfl
  | true => exact absurd (foA_iff.1 e).2 h
theorem foW_full {s : List UInt8} {m n i : Nat} (hi : i ≤ m) (h : accS s m n i = none) : foW s m n = none := by
  unfold foW
  have := accS_none h (m - i)
  rw [show i + (m - i) = m by omega] at this
  rw [this]; simp
theorem foW_ok {s : List UInt8} {m n : Nat} (ha : ∀ i, i < m → okS s m i = true) (hl : leS s m = 65536) : foW s m n = accS s m n m := by
  unfold foW; rw [foA_iff.2 ⟨ha, hl⟩]; rfl

/- the table -/
def wiR (p e : Nat) : Bool := (decide (p = 3) && decide (e = 10)) || (decide (p = 0) && decide (e = 4))
def naR (p e : Nat) : Bool := (decide (p = 3) && decide (e = 1)) || (decide (p = 0) && decide (e ≤ 3))
def rp (l : List UInt8) (i : Nat) : Nat := n2 l (4 + 8 * i)
def re (l : List UInt8) (i : Nat) : Nat := n2 l (6 + 8 * i)
def rpl (l : List UInt8) (i : Nat) : Nat := n4 l (8 + 8 * i)
/- the first of k numbers of which p says yes -/
def fstI (p : Nat → Bool) (k : Nat) : Option Nat := (List.range k).find? p
theorem fstI_some {p : Nat → Bool} {k i : Nat} (hi : i < k) (h : p i = true) (hn : ∀ j, j < i → p j = false) : fstI p k = some i := by
  unfold fstI
  rw [List.find?_eq_some_iff_getElem]
  refine ⟨h, i, by simpa using hi, by simp, fun j hj => ?_⟩
  simp [hn j hj]
theorem fstI_none {p : Nat → Bool} {k : Nat} (hn : ∀ j, j < k → p j = false) : fstI p k = none := by
  unfold fstI
  rw [List.find?_eq_none]
  intro x hx
  rw [hn x (by simpa using hx)]; simp
theorem fstI_get {p : Nat → Bool} {k i : Nat} (h : fstI p k = some i) : i < k ∧ p i = true ∧ ∀ j, j < i → p j = false := by
  unfold fstI at h
  rw [List.find?_eq_some_iff_getElem] at h
  obtain ⟨h1, j, hj, h2, h3⟩ := h
  simp at h2 hj
  subst h2
  exact ⟨hj, h1, fun k hk => by have := h3 k hk; simpa using this⟩
theorem fstI_no {p : Nat → Bool} {k : Nat} (h : fstI p k = none) : ∀ j, j < k → p j = false := by
  unfold fstI at h
  rw [List.find?_eq_none] at h
  intro j hj
  have := h j (by simpa using hj)
  simpa using this
def rowB (l : List UInt8) : Bool := decide (4 ≤ l.length ∧ l.take 2 = [0, 0] ∧ 4 + 8 * n2 l 2 ≤ l.length)
theorem rowB_t {l : List UInt8} : rowB l = true ↔ (4 ≤ l.length ∧ l.take 2 = [0, 0] ∧ 4 + 8 * n2 l 2 ≤ l.length) := by unfold rowB; exact decide_eq_true_iff
def wiI (l : List UInt8) : Option Nat := fstI (fun i => wiR (rp l i) (re l i)) (n2 l 2)
def naI (l : List UInt8) : Option Nat := fstI (fun i => naR (rp l i) (re l i)) (n2 l 2)
def redW (l : List UInt8) (n : Nat) : Option (List Ch) := match wiI l with
  | some i => twV (l.drop (rpl l i)) n
  | none => match naI l with
    | some i => foV (l.drop (rpl l i)) n
    | none => none
def redV (l : List UInt8) (n : Nat) : Option (List Ch) := if rowB l then redW l n else none
end Go.Proofs.Ythgpchjkeidilaa
