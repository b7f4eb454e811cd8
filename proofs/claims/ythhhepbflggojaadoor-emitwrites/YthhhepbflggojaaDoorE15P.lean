/-
  Marks in plain words: which may stand, which are alike; how they lie.
-/
import Derived.Test.YthhhepbflggojaaDoorS8Row
import Derived.Test.YthhhepbflggojaaDoorR3B
namespace Go.Proofs.YthhhepbflggojaaDoor.E15
open Go.RowKit Go.Deep

structure Mk where
  k : Int
  f : Int
  s : Int
  x : Int
  y : Int
  gs : List Int
  r0 : Int
  r1 : Int
  r2 : Int
  r3 : Int
def m0 : Mk := ⟨0, 0, 0, 0, 0, [], 0, 0, 0, 0⟩
abbrev mcs (m : Mk) (v : Value) : Array Value := #[.int .i64 m.k, .int .i64 m.f, .int .i64 m.s, .int .i64 m.x, .int .i64 m.y, v, .int .i64 m.r0, .int .i64 m.r1, .int .i64 m.r2, .int .i64 m.r3]
def noG (g : Int) : Bool := decide (g < 0) || decide (65535 < g)
def alB (m n : Mk) : Bool := m.k == n.k && (m.f == n.f && (m.s == n.s && (m.x == n.x && (m.y == n.y && (m.r0 == n.r0 && (m.r1 == n.r1 && (m.r2 == n.r2 && (m.r3 == n.r3 && decide (m.gs = n.gs)))))))))
def tB (m : Mk) : Bool := decide (0 ≤ m.f) && (decide (m.f ≤ 99) && (decide (1 ≤ m.s) && (inB m.s && (inB m.x && (inB m.y && (decide (0 < m.gs.length) && !m.gs.any noG))))))
def subB (a b : Int) : Bool := inB a && inB b && inB (a - b)
def bxB (a b c d : Int) : Bool := subB c a && (subB d b && R3.mayB a b c d)
def z4 (a b c d : Int) : Bool := a == 0 && (b == 0 && (c == 0 && d == 0))
def oneB (m : Mk) : Bool := if m.k = 1 then tB m && z4 m.r0 m.r1 m.r2 m.r3 else if m.k = 2 ∨ m.k = 3 then bxB m.r0 m.r1 m.r2 m.r3 && alB m ⟨m.k, 0, 0, 0, 0, [], m.r0, m.r1, m.r2, m.r3⟩ else if m.k = 4 then alB m ⟨m.k, 0, 0, 0, 0, [], 0, 0, 0, 0⟩ else false
def dk (k : Int) : Int := if k = 3 then 1 else if k = 4 then -1 else 0
def chk : List Mk → Int → Bool
  | [], o => o == 0
  | m :: ms, o => oneB m && (decide (0 ≤ o + dk m.k) && (decide (o + dk m.k ≤ 32) && chk ms (o + dk m.k)))
def chkB (ms : List Mk) : Bool := decide (ms.length ≤ 8192) && chk ms 0
def chkV (ms : List Mk) : Int := if chkB ms then 0 else 150
def alL : List Mk → List Mk → Bool
  | [], [] => true
  | m :: ms, n :: ns => alB m n && alL ms ns
  | _, _ => false

/- a mark lies in a block from a place on -/
structure MAt (w : World) (b o : Nat) (m : Mk) (ga : Option Addr) (gc : Nat) : Prop where
  c0 : w.cell? ⟨b, o, none⟩ = some (.int .i64 m.k)
  c1 : w.cell? ⟨b, o + 1, none⟩ = some (.int .i64 m.f)
  c2 : w.cell? ⟨b, o + 2, none⟩ = some (.int .i64 m.s)
  c3 : w.cell? ⟨b, o + 3, none⟩ = some (.int .i64 m.x)
  c4 : w.cell? ⟨b, o + 4, none⟩ = some (.int .i64 m.y)
  c5 : w.cell? ⟨b, o + 5, none⟩ = some (.slice ga m.gs.length gc)
  c6 : w.cell? ⟨b, o + 6, none⟩ = some (.int .i64 m.r0)
  c7 : w.cell? ⟨b, o + 7, none⟩ = some (.int .i64 m.r1)
  c8 : w.cell? ⟨b, o + 8, none⟩ = some (.int .i64 m.r2)
  c9 : w.cell? ⟨b, o + 9, none⟩ = some (.int .i64 m.r3)
  lst : Lst w ga m.gs
theorem MAt.below {w w' : World} {b o : Nat} {m : Mk} {ga : Option Addr} {gc : Nat} (h : MAt w b o m ga gc) (hl : b < w.heap.size) (hb : Below w.heap.size w w') : MAt w' b o m ga gc := by
  have e : ∀ j, w'.cell? ⟨b, j, none⟩ = w.cell? ⟨b, j, none⟩ := fun j => hb.cell (p := ⟨b, j, none⟩) hl
  exact ⟨by rw [e]; exact h.c0, by rw [e]; exact h.c1, by rw [e]; exact h.c2, by rw [e]; exact h.c3, by rw [e]; exact h.c4, by rw [e]; exact h.c5, by rw [e]; exact h.c6, by rw [e]; exact h.c7, by rw [e]; exact h.c8, by rw [e]; exact h.c9, h.lst.below hb⟩
def MLst (w : World) (a : Option Addr) (ms : List Mk) : Prop :=
  ms = [] ∨ ∃ b off, a = some ⟨b, off, none⟩ ∧ b < w.heap.size ∧ ∀ i, i < ms.length → ∃ ga gc, MAt w b (off + i * 10) (ms.getD i m0) ga gc
theorem MLst.below {w w' : World} {a : Option Addr} {ms : List Mk} (h : MLst w a ms) (hb : Below w.heap.size w w') : MLst w' a ms := by
  rcases h with h | ⟨b, off, h1, h2, h3⟩
  · exact Or.inl h
  · refine Or.inr ⟨b, off, h1, Nat.lt_of_lt_of_le h2 hb.size, fun i hi => ?_⟩
    obtain ⟨ga, gc, h⟩ := h3 i hi
    exact ⟨ga, gc, h.below h2 hb⟩
theorem MLst.drewN {w : World} {a : Option Addr} {ms : List Mk} (h : MLst w a ms) (n : Nat) : MLst (w.drewN n) a ms := h.below (below_drewN' w n)
theorem drop_ms (ms : List Mk) (k : Nat) (h : k < ms.length) : ms.drop k = ms.getD k m0 :: ms.drop (k + 1) := by
  rw [List.drop_eq_getElem_cons h, List.getD_eq_getElem?_getD, List.getElem?_eq_getElem h]; rfl
theorem ext_zs {xs ys : List Int} (hl : xs.length = ys.length) (h : ∀ i, i < xs.length → xs.getD i 0 = ys.getD i 0) : xs = ys := by
  apply List.ext_getElem hl
  intro i h1 h2
  have := h i h1
  rw [List.getD_eq_getElem?_getD, List.getD_eq_getElem?_getD, List.getElem?_eq_getElem h1, List.getElem?_eq_getElem h2] at this
  simpa using this
end Go.Proofs.YthhhepbflggojaaDoor.E15
