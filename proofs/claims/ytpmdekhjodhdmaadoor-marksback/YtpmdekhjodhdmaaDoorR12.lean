/-
  Joined: K17M.
-/
import Derived.RegionDies
import Derived.Shelf.Strings.SlTrimAscii
import Derived.Test.YtpmdekhjodhdmaaDoorR07
import Derived.Test.YtpmdekhjodhdmaaDoorR10
namespace Go.Proofs.YtpmdekhjodhdmaaDoor.K17
open Go.RowKit Go.Proofs.YtpmdekhjodhdmaaDoor
open Go.Lib
set_option linter.unusedVariables false
set_option linter.unusedSimpArgs false
set_option maxRecDepth 8000
structure But (b : Nat) (w w' : World) : Prop where
  os : w'.os = w.os
  tape : w'.tape = w.tape
  output : w'.output = w.output
  size : w.heap.size ≤ w'.heap.size
  block : ∀ k, k < w.heap.size → k ≠ b → w'.heap[k]? = w.heap[k]?
theorem But.trans' {b : Nat} {u v w : World} (h : But b u v) (k : Below u.heap.size v w) : But b u w :=
  ⟨k.os.trans h.os, k.tape.trans h.tape, k.output.trans h.output, Nat.le_trans h.size k.size, fun i hi hn => by rw [k.block i hi, h.block i hi hn]⟩
theorem But.refl (b : Nat) (w : World) : But b w w := ⟨rfl, rfl, rfl, Nat.le_refl _, fun _ _ _ => rfl⟩
theorem But.trans {b : Nat} {u v w : World} (h : But b u v) (k : But b v w) : But b u w :=
  ⟨k.os.trans h.os, k.tape.trans h.tape, k.output.trans h.output, Nat.le_trans h.size k.size, fun i hi hn => by rw [k.block i (Nat.lt_of_lt_of_le hi h.size) hn, h.block i hi hn]⟩
theorem But.of_below {b : Nat} {w w' : World} (h : Below w.heap.size w w') : But b w w' := ⟨h.os, h.tape, h.output, h.size, fun k hk _ => h.block k hk⟩
theorem But.setCell (b : Nat) (w : World) (o : Nat) (v : Value) : But b w (w.setCell ⟨b, o, none⟩ v) :=
  ⟨rfl, rfl, rfl, by simp [World.setCell], fun k _ hn => Below.heap_setCell _ _ _ _ hn⟩
theorem But.below {b : Nat} {w w' : World} {B : Nat} {W : World} (h : But b w w') (h0 : Below B W w) (hb : B ≤ b) (hB : B ≤ w.heap.size) : Below B W w' :=
  h0.trans ⟨h.os, h.tape, h.output, h.size, fun k hk => h.block k (by omega) (by omega)⟩
def Blk (w : World) (b : Nat) (cs : Array Value) (t : TypeId) : Prop := w.heap[b]? = some (Obj.cells cs t (0, 0))
theorem Blk.new (w : World) (cs : Array Value) (t : TypeId) : Blk (w.alloc (.cells cs t)) w.heap.size cs t := by
  unfold Blk
  show (w.heap.push (.cells cs t))[w.heap.size]? = _
  simp
theorem Blk.lt {w : World} {b : Nat} {cs : Array Value} {t : TypeId} (h : Blk w b cs t) : b < w.heap.size := heap_lt h
theorem Blk.below {w w' : World} {b : Nat} {cs : Array Value} {t : TypeId} (h : Blk w b cs t) (hb : Below w.heap.size w w') : Blk w' b cs t := by
  have hl := h.lt; unfold Blk at *; rw [hb.block b hl]; exact h
theorem Blk.but {w w' : World} {b k : Nat} {cs : Array Value} {t : TypeId} (h : Blk w k cs t) (hb : But b w w') (hne : k ≠ b) : Blk w' k cs t := by
  have hl := h.lt; unfold Blk at *; rw [hb.block k hl hne]; exact h
theorem Blk.cell {w : World} {b : Nat} {cs : Array Value} {t : TypeId} (h : Blk w b cs t) (j : Nat) : w.cell? ⟨b, j, none⟩ = cs[j]? := by
  unfold Blk at h; unfold World.cell?; simp [h]
theorem Blk.frozen {w : World} {b : Nat} {cs : Array Value} {t : TypeId} (h : Blk w b cs t) (j : Nat) : w.frozen? ⟨b, j, none⟩ = false := by
  unfold Blk at h; unfold World.frozen?; simp [h]
theorem Blk.set {w : World} {b : Nat} {cs : Array Value} {t : TypeId} (h : Blk w b cs t) (j : Nat) (v : Value) : Blk (w.setCell ⟨b, j, none⟩ v) b (cs.setIfInBounds j v) t := by
  unfold Blk at *
  simp [World.setCell, Array.getElem?_modify, h]
theorem Blk.other {w : World} {b b' : Nat} {cs : Array Value} {t : TypeId} (h : Blk w b cs t) (hne : b ≠ b') (j : Nat) (v : Value) : Blk (w.setCell ⟨b', j, none⟩ v) b cs t := by
  unfold Blk at *
  rw [Below.heap_setCell _ _ _ _ hne]; exact h
def RA (w : World) (b : Nat) (l : List UInt8) : Prop := Blk w b #[.string ⟨l.toArray⟩] 96
theorem RA.set {w : World} {b : Nat} {l : List UInt8} (h : RA w b l) (r : List UInt8) : RA (w.setCell ⟨b, 0, none⟩ (.string ⟨r.toArray⟩)) b r := Blk.set h 0 (.string ⟨r.toArray⟩)
theorem RA.c0 {w : World} {b : Nat} {l : List UInt8} (h : RA w b l) : w.cell? ⟨b, 0, none⟩ = some (.string ⟨l.toArray⟩) := Blk.cell h 0
theorem RA.f0 {w : World} {b : Nat} {l : List UInt8} (h : RA w b l) : w.frozen? ⟨b, 0, none⟩ = false := Blk.frozen h 0
theorem RA.below {w w' : World} {b : Nat} {l : List UInt8} (h : RA w b l) (hb : Below w.heap.size w w') : RA w' b l := Blk.below h hb
theorem RA.lt {w : World} {b : Nat} {l : List UInt8} (h : RA w b l) : b < w.heap.size := Blk.lt h
abbrev thrown : Ending := .panicked [{ v := .iface 24 (.int .i64 170), recovered := false }]
theorem must_any (t : Bool) (w : World) : Calls Tryd.prog 57 #[.bool t] w fun e w' => (e = if t then .returned (.tuple #[]) else thrown) ∧ w' = w := by
  have hnot : ∀ (x : Bool) (w : World), (Op.unary .not (.bool x)).run Tryd.prog w = .ok (.bool (!x)) w := fun _ _ => rfl
  cases t
  · go_enter Tryd.func57, Tryd.ntmps57
    go_wp2
    exact ⟨rfl, rfl, rfl⟩
  · go_enter Tryd.func57, Tryd.ntmps57
    go_wp2
    go_end0
    exact ⟨rfl, rfl⟩
theorem must_t (w : World) : Calls Tryd.prog 57 #[.bool true] w fun e w' => e = .returned (.tuple #[]) ∧ w' = w := (must_any true w).mono fun _ _ h => ⟨by simpa using h.1, h.2⟩
theorem must_f (w : World) : Calls Tryd.prog 57 #[.bool false] w fun e w' => e = thrown ∧ w' = w := (must_any false w).mono fun _ _ h => ⟨by simpa using h.1, h.2⟩
def hp (p l : List UInt8) : Bool := Lib.hasPrefix l p
def tp (p l : List UInt8) : List UInt8 := if hp p l then l.drop p.length else l
theorem take_any (b : Nat) (l p : List UInt8) (w : World) (h : RA w b l) :
    Calls Tryd.prog 58 #[.pointer (some ⟨b, 0, none⟩), .string ⟨p.toArray⟩] w fun e w' => e = .returned (.bool (hp p l)) ∧ w' = w.setCell ⟨b, 0, none⟩ (.string ⟨(tp p l).toArray⟩) := by
  have CP := hide (fun w => Any.strings_CutPrefix lays103 ⟨l.toArray⟩ ⟨p.toArray⟩ w)
  simp only [mk_l] at CP
  have c0 := h.c0
  have f0 := h.f0
  unfold tp hp
  have e : Lib.trimPrefix l p = if Lib.hasPrefix l p = true then l.drop p.length else l := rfl
  rw [e] at CP
  generalize (if Lib.hasPrefix l p = true then l.drop p.length else l) = r at CP ⊢
  generalize Lib.hasPrefix l p = t at CP ⊢
  clear h e
  go_enter Tryd.func58, Tryd.ntmps58
  go_wp2_with (first | (go_at_call 72; refine (CP.out _).mono ?_; rintro e w1 ⟨rfl, rfl⟩))
  go_ret
  exact ⟨rfl, rfl⟩
def blB (b : UInt8) : Bool := [9, 10, 13, 32].contains b
def bk (l : List UInt8) : List UInt8 := l.dropWhile blB
theorem bk_le (l : List UInt8) : (bk l).length ≤ l.length := (List.dropWhile_suffix _).length_le
theorem blanks_any (b : Nat) (l : List UInt8) (w : World) (h : RA w b l) (hl : l.length ≤ 1048576) :
    Calls Tryd.prog 74 #[.pointer (some ⟨b, 0, none⟩)] w fun e w' => e = .returned (.bool (decide ((bk l).length < l.length))) ∧ RA w' b (bk l) ∧ But b w w' := by
  have CT := hide (fun w => Any.strings_TrimLeft_laid lays161 (by kernel_rfl) ⟨l.toArray⟩ ⟨#[9, 10, 13, 32]⟩ w (by decide) (ascii_of_all (by decide)))
  simp only [mk_l] at CT
  have hb : Lib.trimLeftS l [9, 10, 13, 32] = bk l := rfl
  have CT2 := hide (show ∀ w, Calls Tryd.prog 88 #[.string ⟨l.toArray⟩, .string ⟨#[9, 10, 13, 32]⟩] w fun e w' => e = .returned (.string ⟨(bk l).toArray⟩) ∧ Below w.heap.size w w' from fun w => CT.out w)
  have hle := bk_le l
  have HR := hide h
  have s1 : (⟨(bk l).toArray⟩ : ByteArray).size = (bk l).length := size_m _
  have s2 : (⟨l.toArray⟩ : ByteArray).size = l.length := size_m _
  have c0 := h.c0
  clear h CT hb
  obtain ⟨D, hD⟩ : ∃ D : Bool, decide ((bk l).length < l.length) = D := ⟨_, rfl⟩
  have hD2 : decide ((((⟨(bk l).toArray⟩ : ByteArray).size : Nat) : Int) < (((⟨l.toArray⟩ : ByteArray).size : Nat) : Int)) = D := by rw [s1, s2, ← hD]; simp
  rw [hD]
  clear s1 s2 hD
  generalize hL : bk l = r at *
  generalize hR : (⟨r.toArray⟩ : ByteArray) = R at *
  generalize hS : (⟨l.toArray⟩ : ByteArray) = S at *
  have hD3 : decide (R.size < S.size) = D := by rw [← hD2]; simp
  go_enter Tryd.func74, Tryd.ntmps74
  go_wp2_with (first | (go_at_call 88; refine (CT2.out _).mono ?_; rintro e w1 ⟨rfl, hb⟩; have hr1 := HR.out.below hb; have c1 := hr1.c0; rw [hS] at c1; have f1 := hr1.f0; have HB := hide hb; have HR1 := hide hr1; clear hb hr1))
  go_ret
  refine ⟨by first | rfl | (simp only [hD2]; done) | (simp only [hD3]; done) | (simp [hD2, hD3]), ?_, (But.of_below HB.out).trans (But.setCell _ _ _ _)⟩
  have := RA.set HR1.out r
  rwa [hR] at this
end Go.Proofs.YtpmdekhjodhdmaaDoor.K17
