/-
  What narrowTable's end wants: rows that grow by one, their numbers in memory, the greatest power of 2.
-/
import Derived.Test.YthgpchjkeidilaaC11N
import Derived.Test.YthgpchjkeidilaaShelf
import Derived.Lib.ItoaNum
import Derived.Lib.AppendZeros
namespace Go.Proofs.Ythgpchjkeidilaa
open Go.RowKit Go.Deep Go.Shelf
set_option linter.unusedVariables false

def zl (cs : List Ch) : List Int := cs.map (·.l)
def zf (cs : List Ch) : List Int := cs.map (·.f)
def zd (cs : List Ch) : List Int := cs.map fun x => x.g - x.f
theorem zs_take (cs : List Ch) (k : Nat) (h : k < cs.length) : zl (cs.take (k + 1)) = zl (cs.take k) ++ [(cs.getD k c0).l] ∧ zf (cs.take (k + 1)) = zf (cs.take k) ++ [(cs.getD k c0).f] ∧ zd (cs.take (k + 1)) = zd (cs.take k) ++ [(cs.getD k c0).g - (cs.getD k c0).f] := by
  rw [take_ch cs k h]; unfold zl zf zd; simp
/- three rows -/
structure R3 (w u : World) (v3 v4 v5 : Value) (z3 z4 z5 : List Int) : Prop where
  i3 : IRow u w.heap.size v3 z3
  i4 : IRow u w.heap.size v4 z4
  i5 : IRow u w.heap.size v5 z5
  a34 : Apart v3 v4
  a35 : Apart v3 v5
  a45 : Apart v4 v5
  low : Below w.heap.size w u
section
variable {w u : World} {v3 v4 v5 : Value} {z3 z4 z5 : List Int}
theorem R3.box (h : R3 w u v3 v4 v5 z3 z4 z5) (cs : Array Value) : Q3 w u.heap.size cs (u.alloc (.cells cs 31)) v3 v4 v5 z3 z4 z5 [] :=
  ⟨World.ownsRow.alloc h.i3 _, World.ownsRow.alloc h.i4 _, World.ownsRow.alloc h.i5 _, h.a34, h.a35, h.a45, fun p hp => (by cases hp), h.low.alloc h.low.size _, Blk.new _ _ _⟩
theorem Q3.rows {bx : Nat} {cs : Array Value} {src : List (Nat × Int)} (h : Q3 w bx cs u v3 v4 v5 z3 z4 z5 src) : R3 w u v3 v4 v5 z3 z4 z5 := ⟨h.i3, h.i4, h.i5, h.a34, h.a35, h.a45, h.low⟩
theorem R3.app3 (h : R3 w u v3 v4 v5 z3 z4 z5) (x : Int) (hl : z3.length ≤ 1000000) :
    ∃ v' u', (Builtin.append_ #[48, 48] 48 #[v3, .slice (some ⟨u.heap.size, 0, none⟩) 1 1]).run Try.prog (u.alloc (.cells #[.int .i64 x] 3)) = .ok v' u' ∧ R3 w u' v' v4 v5 (z3 ++ [x]) z4 z5 := by
  have hb : Below u.heap.size u (u.alloc (.cells #[.int .i64 x] 3)) := (Below.refl _ _).alloc (Nat.le_refl _) _
  have hlo : Below w.heap.size w (u.alloc (.cells #[.int .i64 x] 3)) := h.low.trans (hb.mono h.low.size)
  obtain ⟨v', u', r, i, o, sz, bl, be⟩ := app_i1 x u.heap.size (W := u.alloc (.cells #[.int .i64 x] 3)) (World.ownsRow.alloc h.i3 _) hlo.size hl (Blk.new _ _ _)
  have i4 : IRow (u.alloc (.cells #[.int .i64 x] 3)) w.heap.size v4 z4 := World.ownsRow.alloc h.i4 _
  have i5 : IRow (u.alloc (.cells #[.int .i64 x] 3)) w.heap.size v5 z5 := World.ownsRow.alloc h.i5 _
  have ap : ∀ v, Apart v3 v → (∀ k, v.ownBlock = some k → k < (u.alloc (.cells #[.int .i64 x] 3)).heap.size) → Apart v' v := fun v hv hk k e1 e2 => by
    rcases o with o | o
    · rw [o] at e1; exact hv k e1 e2
    · rw [o] at e1
      have h1 := hk k e2
      injection e1 with e1
      omega
  exact ⟨v', u', r, i, i4.keep fun k e hk => bl k hk (fun e2 => h.a34 k e2 e), i5.keep fun k e hk => bl k hk (fun e2 => h.a35 k e2 e), ap _ h.a34 (fun k e => (i4.ownlt k e).2), ap _ h.a35 (fun k e => (i5.ownlt k e).2), h.a45, hlo.trans be⟩
theorem R3.r4 (h : R3 w u v3 v4 v5 z3 z4 z5) : R3 w u v4 v3 v5 z4 z3 z5 := ⟨h.i4, h.i3, h.i5, h.a34.symm, h.a45, h.a35, h.low⟩
theorem R3.r5 (h : R3 w u v3 v4 v5 z3 z4 z5) : R3 w u v5 v4 v3 z5 z4 z3 := ⟨h.i5, h.i4, h.i3, h.a45.symm, h.a35.symm, h.a34.symm, h.low⟩
theorem R3.app4 (h : R3 w u v3 v4 v5 z3 z4 z5) (x : Int) (hl : z4.length ≤ 1000000) :
    ∃ v' u', (Builtin.append_ #[48, 48] 48 #[v4, .slice (some ⟨u.heap.size, 0, none⟩) 1 1]).run Try.prog (u.alloc (.cells #[.int .i64 x] 3)) = .ok v' u' ∧ R3 w u' v3 v' v5 z3 (z4 ++ [x]) z5 := by
  obtain ⟨v', u', r, q⟩ := h.r4.app3 x hl
  exact ⟨v', u', r, q.r4⟩
theorem R3.app5 (h : R3 w u v3 v4 v5 z3 z4 z5) (x : Int) (hl : z5.length ≤ 1000000) :
    ∃ v' u', (Builtin.append_ #[48, 48] 48 #[v5, .slice (some ⟨u.heap.size, 0, none⟩) 1 1]).run Try.prog (u.alloc (.cells #[.int .i64 x] 3)) = .ok v' u' ∧ R3 w u' v3 v4 v' z3 z4 (z5 ++ [x]) := by
  obtain ⟨v', u', r, q⟩ := h.r5.app3 x hl
  exact ⟨v', u', r, q.r5⟩
end
theorem IRow.il {u : World} {B : Nat} {v : Value} {zs : List Int} (h : IRow u B v zs) : ∃ a cap, v = .slice a zs.length cap ∧ IL u a zs := by
  obtain ⟨a, cap, hv, hL, _, _⟩ := h.lst
  refine ⟨a, cap, hv, ?_⟩
  obtain ⟨_, ⟨h0, h1⟩ | ⟨g, cap', cur, hv', hg, hh, _⟩⟩ := h
  · exact Or.inl (List.eq_nil_of_length_eq_zero h1)
  · rcases hL with hz | ⟨b, off, ha, hb, hc⟩
    · exact Or.inl hz
    · rw [hv, ha] at hv'
      simp only [Value.slice.injEq, Option.some.injEq, Addr.mk.injEq, and_true, true_and] at hv'
      obtain ⟨⟨rfl, rfl⟩, rfl⟩ := hv'
      exact Or.inr ⟨b, 0, cur, _, ha, hh, hc⟩
/- the greatest power of 2 that is not above n, and its exponent -/
def expV (n : Nat) : Nat := Lib.bitLen n - 1
def powV (n : Nat) : Nat := 2 ^ expV n
theorem exp_bd (n : Nat) (h1 : 1 ≤ n) (h2 : n ≤ 5001) : Lib.bitLen n = expV n + 1 ∧ expV n ≤ 12 ∧ powV n ≤ n ∧ n < 2 * powV n ∧ 1 ≤ powV n := by
  have hb := Lib.bitLenAux_bounds 64 n (by omega) (by omega)
  have hle : Lib.bitLen n ≤ 13 := Lib.bitLen_le n 13 (by omega) (by omega)
  have e : Lib.bitLen n = Lib.bitLenAux 64 n := rfl
  rw [← e] at hb
  obtain ⟨b1, b2, b3⟩ := hb
  unfold powV expV
  refine ⟨by omega, by omega, b2, ?_, Nat.one_le_two_pow⟩
  have : 2 ^ Lib.bitLen n = 2 * 2 ^ (Lib.bitLen n - 1) := by
    rw [← Nat.pow_succ']; congr 1; omega
  omega
theorem len_any (x : Nat) (w : World) (h1 : x ≤ 1000000) : Calls Try.prog 23 #[.int .u64 x] w fun e w' => e = .returned (.int .i64 ((Lib.bitLen x : Nat) : Int)) ∧ w' = w := by
  have h := Any.bits_Len lays125 (x : Int) w (by omega) (by omega)
  rwa [Int.toNat_natCast] at h
theorem make_ints (n : Nat) (hn : n ≤ 100000) (x : World) : (Instr.makeSlice 48 (.int .i64 (n : Int)) (.int .i64 (n : Int))).run Try.prog x = .ok (.slice (some ⟨x.heap.size, 0, none⟩) n n) (x.alloc (.cells (((List.replicate n (0 : Int)).map (Value.int .i64)).toArray) 3)) := by
  obtain ⟨i0, hi, hz0, hz1, hz2⟩ := info_parts5 info_int
  have h := run_make (P := Try.prog) x 48 3 i0 (.int .i64 0) Try.underlying48 hi hz0 .i64 .i64 n n (by omega) (Int.le_refl _) (by rw [hz2]; omega) (by omega)
  rw [hz1] at h
  simp only [Int.toNat_natCast, Nat.mul_one] at h
  have e : madeCells (Value.int .i64 0).cells n = ((List.replicate n (0 : Int)).map (Value.int .i64)).toArray := by
    apply Array.ext (by simp [madeCells])
    intro j h1 h2
    simp [madeCells, Value.cells, Nat.mod_one]
  rw [e] at h
  exact h
/- the table that is not wide -/
def naT (cs : List Ch) : List UInt8 :=
  opT 1 ++ [0, 4] ++ tw [16 + 8 * ((cs.length : Int) + 1), 0, 2 * ((cs.length : Int) + 1), 2 * (powV (cs.length + 1) : Int), (expV (cs.length + 1) : Int), 2 * ((cs.length : Int) + 1) - 2 * (powV (cs.length + 1) : Int)]
    ++ tw (zl cs ++ [65535]) ++ tw [0] ++ tw (zf cs ++ [65535]) ++ tw (zd cs ++ [1]) ++ tw (List.replicate (cs.length + 1) 0)
end Go.Proofs.Ythgpchjkeidilaa
