/-
  Joined: P6E, P6Lg, P6Row, P6Cp, P6Sm.
-/
import Derived.Test.YtlnkddmpcicejaaDoorBA
import Derived.Test.YtlnkddmpcicejaaDoorBF
import Derived.RegionTactic
import Derived.ChangeAlike
import Derived.BigRegion
import Derived.Deep.CutRange
/-
  Files in memory: entries one behind the other, eight cells each.
-/
namespace Go.Proofs.YtlnkddmpcicejaaDoor
open Go.RowKit Go.Deep
set_option linter.unusedVariables false

structure EP where
  p : Pay
  T : BT Pay
  st : Bool
  da : ByteArray
def ERows (w : World) : List EP → Nat → Nat → Prop
  | [], _, _ => True
  | e :: l, b, off => ((∃ ka kc ia ic, Six w b off e.p ka kc ia (flen e.T) ic ∧ OIn w e.p e.T ka kc ia ic) ∧ w.cell? ⟨b, off + 6, none⟩ = some (.bool e.st) ∧ w.cell? ⟨b, off + 7, none⟩ = some (.string e.da)) ∧ ERows w l b (off + 8)
def FIn (w : World) (l : List EP) (ea : Option Addr) (ec : Nat) : Prop :=
  ((l.length ≤ ec ∧ l.length ≤ 1256584717450) ∧ ec ≤ 9223372036854775807) ∧ (∀ e ∈ l, e.da.size ≤ 140737488351232) ∧ (l = [] ∨ ∃ b off, ea = some ⟨b, off, none⟩ ∧ b < w.heap.size ∧ ERows w l b off)
abbrev fv (l : List EP) (ea : Option Addr) (ec : Nat) (root : Int) : Value := .agg #[.slice ea l.length ec, .int .i64 root]
abbrev fbox (l : List EP) (ea : Option Addr) (ec : Nat) (root : Int) : Array Value := #[.slice ea l.length ec, .int .i64 root]
theorem ERows.sub {w w' : World} (h : Sub w w') : ∀ {l : List EP} {b off : Nat}, ERows w l b off → ERows w' l b off
  | [], _, _, _ => trivial
  | e :: l, b, off, k => by
    obtain ⟨⟨⟨ka, kc, ia, ic, h6, hin⟩, h1, h2⟩, hl⟩ := k
    exact ⟨⟨⟨ka, kc, ia, ic, h6.sub h, hin.sub h⟩, h.cell _ _ h1, h.cell _ _ h2⟩, ERows.sub h hl⟩
theorem FIn.sub {w w' : World} (h : Sub w w') {l : List EP} {ea : Option Addr} {ec : Nat} (k : FIn w l ea ec) : FIn w' l ea ec := by
  obtain ⟨h1, h2, h3⟩ := k
  refine ⟨h1, h2, ?_⟩
  rcases h3 with h3 | ⟨b, off, e, hb, h3⟩
  · exact Or.inl h3
  · exact Or.inr ⟨b, off, e, Nat.lt_of_lt_of_le hb h.size, h3.sub h⟩
theorem FIn.below {w w' : World} (h : Below w.heap.size w w') {l : List EP} {ea : Option Addr} {ec : Nat} (k : FIn w l ea ec) : FIn w' l ea ec := k.sub (Sub.of_below h)
theorem FIn.at_ {w : World} {l : List EP} {ea : Option Addr} {ec : Nat} (k : FIn w l ea ec) : ∃ b off, (l = [] ∨ (ea = some ⟨b, off, none⟩ ∧ b < w.heap.size)) ∧ ERows w l b off := by
  obtain ⟨_, _, h | ⟨b, off, e, hb, h⟩⟩ := k
  · subst h; exact ⟨0, 0, Or.inl rfl, trivial⟩
  · exact ⟨b, off, Or.inr ⟨e, hb⟩, h⟩
theorem Blk.two {w : World} {b : Nat} {x0 x1 : Value} {t : TypeId} (h : Blk w b #[x0, x1] t) : (w.cell? ⟨b, 0, none⟩ = some x0 ∧ w.cell? ⟨b, 1, none⟩ = some x1) ∧ (w.frozen? ⟨b, 0, none⟩ = false ∧ w.frozen? ⟨b, 1, none⟩ = false) := ⟨⟨h.cell 0, h.cell 1⟩, ⟨h.frozen 0, h.frozen 1⟩⟩
theorem info_entry : (Tryd.prog.info? 41).map (fun i => (i.zero, i.size, i.bytes)) = some (some (.agg #[.int .i64 0, .bool false, .int .i64 0, .string ByteArray.empty, .slice none 0 0, .slice none 0 0, .bool false, .string ByteArray.empty]), 8, 112) := by kernel_rfl
end Go.Proofs.YtlnkddmpcicejaaDoor
/-
  The law's own Large of a file: where it is not, its bytes are few.
-/
namespace Go.Proofs.YtlnkddmpcicejaaDoor
open Go.RowKit Go.Deep
set_option linter.unusedVariables false

def LgP (l : List EP) (e : Ending) : Prop := ∃ r : Bool, e = .returned (.bool r) ∧ (r = false → l.length ≤ 5000 ∧ ∀ e ∈ l, e.da.size ≤ 200000)
set_option maxRecDepth 8000 in
set_option maxHeartbeats 4000000 in
theorem flarge_any (l : List EP) (ea : Option Addr) (ec : Nat) (root : Int) (w : World) (hin : FIn w l ea ec) :
    Calls Tryd.prog 4 #[fv l ea ec root] w fun e w' => LgP l e ∧ Below w.heap.size w w' := by
  have HI := hide hin
  have hl1 : (l.length : Int) ≤ 1256584717450 := by have h := hin.1.1.2; omega
  have hl0 : (0 : Int) ≤ (l.length : Int) := by omega
  have HB0 := hide ((Below.refl w.heap.size w).alloc (Nat.le_refl _) (.cells (fbox l ea ec root) 24))
  have HK0 := hide (Blk.new w (fbox l ea ec root) 24)
  obtain ⟨b, off, hea, hrows⟩ := hin.at_
  have HEA := hide hea
  have HRW := hide hrows
  clear hin hea hrows
  by_cases h5 : l.length ≤ 5000
  case neg =>
    have g5 : decide ((5000 : Int) < (l.length : Int)) = true := by simp; omega
    clear h5
    go_enter Tryd.func4, Tryd.ntmps4
    go_wp2_with fail
    go_ret
    exact ⟨⟨_, rfl, fun h => by cases h⟩, HB0.out⟩
  have g5 : decide ((5000 : Int) < (l.length : Int)) = false := by simp; omega
  have h5i : (l.length : Int) ≤ 5000 := by omega
  go_enter Tryd.func4, Tryd.ntmps4
  go_wp2_with fail
  go_loopw [3, 4] (fun vn vi wr => ∃ (m : Int) (k : Nat) (U : List EP), vn = .int .i64 m ∧ vi = .int .i64 k ∧ Hid (U.length + k = l.length ∧ ERows w U b (off + k * 8) ∧ (∀ e ∈ U, e ∈ l) ∧ (∀ e ∈ l, e ∈ U ∨ e.da.size ≤ 200000) ∧ 0 ≤ m ∧ m ≤ 200000 ∧ Below w.heap.size w wr ∧ Blk wr w.heap.size (fbox l ea ec root) 24)) (fun _ vi _ => l.length - (intOf vi).toNat)
  case atStart => exact ⟨0, 0, l, rfl, rfl, hide ⟨by omega, by simpa using HRW.out, fun _ h => h, fun _ h => Or.inl h, by omega, by omega, HB0.out, HK0.out⟩⟩
  case round =>
    clear HB0 HK0 HRW
    obtain ⟨m, k, U, rfl, rfl, HV⟩ := hrel
    obtain ⟨hk, hrow, hsub, hall, hm0, hm1, hbel, hblk⟩ := HV.out
    have HB := hide hbel
    have HK := hide hblk
    obtain ⟨⟨s0, s1⟩, _⟩ := hblk.two
    have hk0 : (0 : Int) ≤ (k : Int) := by omega
    cases U with
    | nil =>
      have hk' : (l.length : Int) ≤ (k : Int) := by simp at hk; omega
      have HALL := hide (show l.length ≤ 5000 ∧ ∀ e ∈ l, e.da.size ≤ 200000 from ⟨h5, fun e he => by rcases hall e he with h | h; cases h; exact h⟩)
      clear HV hk hrow hsub hall hbel hblk h5
      go_wp2_with fail
      all_goals
        go_ret
        exact ⟨⟨_, rfl, fun _ => HALL.out⟩, HB.out⟩
    | cons x U =>
      obtain ⟨⟨⟨ka, kc, ia, ic, g6, gin⟩, gs, gd⟩, grest⟩ := hrow
      obtain rfl | ⟨rfl, hbz⟩ := HEA.out
      · simp at hk
      have hlt : (k : Int) < (l.length : Int) := by simp at hk; omega
      have hxl : (x.da.size : Int) ≤ 140737488351232 := by have := HI.out.2.1 x (hsub x (by simp)); omega
      have CL := hide (large_any x.p x.T ka kc ia ic wr (gin.below hbel))
      obtain ⟨c0, c1, c2, c3, c4, c5⟩ := g6.below hbz hbel
      have c7 := (hbel.cell (p := ⟨b, off + k * 8 + 7, none⟩) hbz).trans gd
      have HGR := hide grest
      have HKK := hide (show U.length + (k + 1) = l.length ∧ (∀ e ∈ U, e ∈ l) by refine ⟨by simp at hk; omega, fun e he => hsub e (by simp [he])⟩)
      have HALL := hide hall
      have hx0 : (0 : Int) ≤ (x.da.size : Int) := by omega
      clear HV hk hsub hall hbel hblk h5 g6 gin gs gd grest
      by_cases hbig : m + (x.da.size : Int) ≤ 200000
      case neg =>
        have gb : decide ((200000 : Int) < m + (x.da.size : Int)) = true := by simp; omega
        go_wp2_with fail
        go_ret
        exact ⟨⟨_, rfl, fun h => by cases h⟩, HB.out⟩
      have gb : decide ((200000 : Int) < m + (x.da.size : Int)) = false := by simp; omega
      go_wp2_with fail
      refine CL.out.mono ?_
      rintro e w1 ⟨⟨r, rfl⟩, h1⟩
      have H1 := hide h1
      clear h1
      cases r
      case true =>
        go_wp2_with fail
        go_ret
        exact ⟨⟨_, rfl, fun h => by cases h⟩, below_t5 HB.out H1.out⟩
      go_wp2_with fail
      go_roundw
      case rel =>
        refine ⟨_, k + 1, U, rfl, by go_num, hide ⟨HKK.out.1, ?_, HKK.out.2, fun e he => ?_, by omega, hbig, below_t5 HB.out H1.out, HK.out.below H1.out⟩⟩
        · have := HGR.out; rw [show off + (k + 1) * 8 = off + k * 8 + 8 by omega]; exact this
        · rcases HALL.out e he with h | h
          · rcases List.mem_cons.1 h with rfl | h
            · exact Or.inr (by omega)
            · exact Or.inl h
          · exact Or.inr h
      case measure => simp [intOf]; omega
end Go.Proofs.YtlnkddmpcicejaaDoor
/-
  Entries in a row that a call owns; one more at the end.
-/
namespace Go.Proofs.YtlnkddmpcicejaaDoor
open Go.RowKit Go.Deep
set_option linter.unusedVariables false

structure EEnt where
  e : EP
  ka : Option Addr
  kc : Nat
  ia : Option Addr
  ic : Nat
def EEnt.cells (x : EEnt) : List Value := [.int .i64 x.e.p.kind, .bool x.e.p.flag, .int .i64 x.e.p.num, .string x.e.p.text, .slice x.ka x.e.p.keys.length x.kc, .slice x.ia (flen x.e.T) x.ic, .bool x.e.st, .string x.e.da]
def EEnt.lies (w : World) (x : EEnt) : Prop := OIn w x.e.p x.e.T x.ka x.kc x.ia x.ic
def eecells (l : List EEnt) : List Value := l.flatMap EEnt.cells
theorem eecells_len : ∀ l : List EEnt, (eecells l).length = l.length * 8
  | [] => rfl
  | x :: l => by
    have := eecells_len l
    simp only [eecells, List.flatMap_cons, List.length_append] at this ⊢
    rw [this]
    simp [EEnt.cells]
    omega
theorem eecells_append (l : List EEnt) (x : EEnt) : eecells (l ++ [x]) = eecells l ++ x.cells := by simp [eecells]
abbrev eps (l : List EEnt) : List EP := l.map (·.e)
def ERow (w : World) (B : Nat) (v : Value) (l : List EEnt) : Prop := w.ownsRow B 41 8 v l.length (eecells l) ∧ ∀ x ∈ l, x.lies (only (Part B v) w)
theorem ERow.nil (w : World) (B : Nat) : ERow w B (.slice none 0 0) [] := ⟨World.ownsRow_nil _ _ _ _, by simp⟩
theorem erows_cells {w : World} : ∀ {l : List EEnt} {b off : Nat}, (∀ j, j < l.length * 8 → w.cell? ⟨b, off + j, none⟩ = (eecells l)[j]?) → (∀ x ∈ l, x.lies w) → ERows w (eps l) b off
  | [], _, _, _, _ => trivial
  | x :: l, b, off, h, hl => by
    have hc : ∀ j, j < 8 → w.cell? ⟨b, off + j, none⟩ = x.cells[j]? := fun j hj => by
      rw [h j (by simp; omega), show eecells (x :: l) = x.cells ++ eecells l by simp [eecells], List.getElem?_append_left (by simpa [EEnt.cells] using hj)]
    refine ⟨⟨⟨x.ka, x.kc, x.ia, x.ic, ⟨hc 0 (by omega), hc 1 (by omega), hc 2 (by omega), hc 3 (by omega), hc 4 (by omega), hc 5 (by omega)⟩, hl x (by simp)⟩, hc 6 (by omega), hc 7 (by omega)⟩, erows_cells (fun j hj => ?_) fun y hy => hl y (by simp [hy])⟩
    have := h (j + 8) (by simp; omega)
    rw [show off + 8 + j = off + (j + 8) by omega, this, show eecells (x :: l) = x.cells ++ eecells l by simp [eecells], List.getElem?_append_right (by simp [EEnt.cells])]
    simp [EEnt.cells]
theorem ERow.file {w : World} {B : Nat} {v : Value} {l : List EEnt} (h : ERow w B v l) (hn : l.length ≤ 1256584717450) (hd : ∀ e ∈ eps l, e.da.size ≤ 140737488351232) :
    ∃ a cap, v = .slice a (eps l).length cap ∧ FIn (fresh B w) (eps l) a cap := by
  have hel : (eps l).length = l.length := by simp
  rw [hel]
  obtain ⟨h, hl⟩ := h
  have h' := h
  obtain ⟨_, ⟨h0, h1⟩ | ⟨g, cap, cur, hv, hg, hh, hc, hm, _⟩⟩ := h'
  · have e : l = [] := List.eq_nil_of_length_eq_zero h1
    exact ⟨none, 0, by rw [h0, h1], ⟨⟨by rw [hel]; omega, by rw [hel]; omega⟩, by omega⟩, hd, Or.inl (by rw [e]; rfl)⟩
  · refine ⟨some ⟨g, 0, none⟩, cap, hv, ⟨⟨by rw [hel]; exact hc, by rw [hel]; exact hn⟩, by unfold maxLen at hm; exact hm⟩, hd, Or.inr ⟨g, 0, rfl, ?_, ?_⟩⟩
    · rw [hv] at h; rw [fresh, only_size]; exact (World.ownsRow.lt h g rfl).2
    · have hP : ∀ x ∈ l, x.lies (fresh B w) := fun x hx => OIn.sub (only_sub (Nat.le_refl _) fun k hk _ => ⟨hk.1, rfl⟩) (hl x hx)
      rw [hv] at h
      refine erows_cells (fun j hj => ?_) hP
      have he := World.ownsRow.cellAt h j hj
      rw [Nat.zero_add]
      have hj' : j < (eecells l).length := by rw [eecells_len]; exact hj
      rw [List.getElem?_eq_getElem hj'] at he ⊢
      exact sub_only (S := fun k => B ≤ k) hg ⟨_, _, hh⟩ he
theorem ERow.appended {w w1 w2 : World} {B g cap : Nat} {v : Value} {l : List EEnt} {x : EEnt} (h : ERow w B v l) (hs : w.heap.size ≤ w1.heap.size) (hB : B ≤ w.heap.size) (hk : ∀ k, B ≤ k → k < w.heap.size → w1.heap[k]? = w.heap[k]?)
    (hx : x.lies (fresh w.heap.size w1)) (hown : w2.ownsRow B 41 8 (.slice (some ⟨g, 0, none⟩) (l.length + 1) cap) (l.length + 1) (eecells l ++ x.cells)) (hg : w1.grownBy w2 v.ownBlock) (hat : v.ownBlock = some g ∨ w1.heap.size ≤ g) :
    ERow w2 B (.slice (some ⟨g, 0, none⟩) (l.length + 1) cap) (l ++ [x]) := by
  have hv : ∀ k, v.ownBlock = some k → k < w.heap.size := fun k hk => (World.ownsRow.lt h.1 k hk).2
  have hb : ∀ k, k < w1.heap.size → v.ownBlock ≠ some k → w2.heap[k]? = w1.heap[k]? := fun k h1 h2 => hg.block k h1 (fun h => h2 h.symm)
  refine ⟨by rw [eecells_append]; simpa using hown, fun y hy => ?_⟩
  rcases List.mem_append.1 hy with hy | hy
  · refine OIn.sub (only_sub (Nat.le_trans hs hg.size) fun k h1 h2 => ⟨⟨h1.1, ?_⟩, ?_⟩) (h.2 y hy)
    · rw [hb k (by omega) h1.2, hk k h1.1 h2]
    · intro e
      have e : g = k := by simpa [Value.ownBlock] using e
      rcases hat with ha | ha
      · exact h1.2 (by rw [ha, e])
      · omega
  · obtain rfl : y = x := by simpa using hy
    refine OIn.sub (only_sub hg.size fun k h1 h2 => ⟨⟨by omega, ?_⟩, ?_⟩) hx
    · exact hb k h2 (fun e => by have := hv _ e; omega)
    · intro e
      have e : g = k := by simpa [Value.ownBlock] using e
      rcases hat with ha | ha
      · have := hv _ ha; omega
      · omega
theorem app_ent {W W1 : World} {B : Nat} {v : Value} {l : List EEnt} (x : EEnt) (h : ERow W B v l) (hs : W.heap.size ≤ W1.heap.size) (hk : ∀ k, B ≤ k → k < W.heap.size → W1.heap[k]? = W.heap[k]?) (hB : B ≤ W.heap.size) (hx : x.lies (fresh W.heap.size W1)) (hn : l.length + 1 ≤ 1256584717450) (H : Nat) (hH : W1.heap.size = H) :
    ∃ g cap w2, (Builtin.append_ #[22, 22] 22 #[v, .slice (some ⟨H, 0, none⟩) 1 1]).run Tryd.prog (W1.alloc (.cells x.cells.toArray 41)) = .ok (.slice (some ⟨g, 0, none⟩) (l.length + 1) cap) w2 ∧
      ERow w2 B (.slice (some ⟨g, 0, none⟩) (l.length + 1) cap) (l ++ [x]) ∧ Below B W1 w2 := by
  obtain ⟨i0, hi, hz0, hz1, hz2⟩ := info_parts5 info_entry
  have hown : (W1.alloc (.cells x.cells.toArray 41)).ownsRow B 41 8 v l.length (eecells l) := (ownsRow_kept h.1 hk).alloc _
  subst hH
  obtain ⟨g, cap, w2, hr, ho, hg, hat, hlt⟩ := run_append_lies (P := Tryd.prog) (W1.alloc (.cells x.cells.toArray 41)) 22 22 B 41 i0 _ 8 112 Tryd.underlying22 hi hz0 hz1 hz2 rfl (by decide) v l.length (eecells l) hown ⟨W1.heap.size, 0, none⟩ 1 1 x.cells rfl
    (fun j u hu => by rw [Go.WideShapes.add_plain, Nat.zero_add, World.cell?_alloc_at _ _ _ _ rfl]; simpa using hu) (fun u hu => by simp [EEnt.cells] at hu; rcases hu with rfl | rfl | rfl | rfl | rfl | rfl | rfl | rfl <;> rfl) (by decide) (by unfold maxLen; omega) (by omega) (by simp; omega) (W1.heap.size + 1) (by simp)
  refine ⟨g, cap, w2, hr, ?_, ?_⟩
  · refine h.appended (w1 := W1.alloc (.cells x.cells.toArray 41)) (by simp; omega) hB (fun k h1 h2 => by rw [Below.heap_alloc _ _ _ (by omega)]; exact hk k h1 h2) (OIn.sub (fresh_le (Nat.le_refl _) ((Below.refl _ _).alloc (Nat.le_refl _) _)) hx) ho hg ?_
    rcases hat with ha | ha
    · exact Or.inl ha
    · exact Or.inr (by rw [ha]; simp)
  · exact ((Below.refl B W1).alloc (by omega) _).grown hg (by simp; omega) fun k hk' => (World.ownsRow.lt h.1 k hk').1
end Go.Proofs.YtlnkddmpcicejaaDoor
/-
  What the reference's Copy of a file (chapter 6) answers: the same file in memory of its own.
-/
namespace Go.Proofs.YtlnkddmpcicejaaDoor
open Go.RowKit Go.Deep
set_option linter.unusedVariables false

theorem st6_blk8 {w : World} {b : Nat} {x0 x1 x2 x3 x4 x5 x6 x7 : Value} {t : TypeId} (h : Blk w b #[x0, x1, x2, x3, x4, x5, x6, x7] t) (v0 v1 v2 v3 v4 v5 : Value) : Blk (st6 w b v0 v1 v2 v3 v4 v5) b #[v0, v1, v2, v3, v4, v5, x6, x7] t :=
  (((((h.set 0 v0).set 1 v1).set 2 v2).set 3 v3).set 4 v4).set 5 v5
theorem Blk.eight {w : World} {b : Nat} {x0 x1 x2 x3 x4 x5 x6 x7 : Value} {t : TypeId} (h : Blk w b #[x0, x1, x2, x3, x4, x5, x6, x7] t) : (w.cell? ⟨b, 0, none⟩ = some x0 ∧ w.cell? ⟨b, 1, none⟩ = some x1 ∧ w.cell? ⟨b, 2, none⟩ = some x2 ∧ w.cell? ⟨b, 3, none⟩ = some x3 ∧ w.cell? ⟨b, 4, none⟩ = some x4 ∧ w.cell? ⟨b, 5, none⟩ = some x5 ∧ w.cell? ⟨b, 6, none⟩ = some x6 ∧ w.cell? ⟨b, 7, none⟩ = some x7) ∧
    (w.frozen? ⟨b, 0, none⟩ = false ∧ w.frozen? ⟨b, 1, none⟩ = false ∧ w.frozen? ⟨b, 2, none⟩ = false ∧ w.frozen? ⟨b, 3, none⟩ = false ∧ w.frozen? ⟨b, 4, none⟩ = false ∧ w.frozen? ⟨b, 5, none⟩ = false) :=
  ⟨⟨h.cell 0, h.cell 1, h.cell 2, h.cell 3, h.cell 4, h.cell 5, h.cell 6, h.cell 7⟩, ⟨h.frozen 0, h.frozen 1, h.frozen 2, h.frozen 3, h.frozen 4, h.frozen 5⟩⟩
abbrev ebox (x : EP) (ka : Option Addr) (kc : Nat) (ia : Option Addr) (ic : Nat) : Array Value := #[.int .i64 x.p.kind, .bool x.p.flag, .int .i64 x.p.num, .string x.p.text, .slice ka x.p.keys.length kc, .slice ia (flen x.T) ic, .bool x.st, .string x.da]
abbrev zfile : Array Value := #[.slice none 0 0, .int .i64 0]
def CpR (w : World) (l : List EP) (root : Int) (e : Ending) (w' : World) : Prop := ∃ ea ec, e = .returned (fv l ea ec root) ∧ FIn (fresh w.heap.size w') l ea ec
set_option maxRecDepth 8000 in
set_option maxHeartbeats 4000000 in
theorem fcopy_any (l : List EP) (ea : Option Addr) (ec : Nat) (root : Int) (w : World) (hin : FIn w l ea ec) :
    Calls Tryd.prog 7 #[fv l ea ec root] w fun e w' => CpR w l root e w' ∧ Below w.heap.size w w' := by
  have HI := hide hin
  have hl1 : (l.length : Int) ≤ 1256584717450 := by have h := hin.1.1.2; omega
  have hl0 : (0 : Int) ≤ (l.length : Int) := by omega
  have HB0 := hide (((Below.refl w.heap.size w).alloc (Nat.le_refl _) (.cells (fbox l ea ec root) 24)).alloc (by simp) (.cells zfile 24))
  have HK0 := hide ((Blk.new w (fbox l ea ec root) 24).below ((Below.refl _ _).alloc (Nat.le_refl _) (.cells zfile 24)))
  have HZ0 : Hid (Blk ((w.alloc (.cells (fbox l ea ec root) 24)).alloc (.cells zfile 24)) (w.heap.size + 1) zfile 24) := hide (by
    have := Blk.new (w.alloc (.cells (fbox l ea ec root) 24)) zfile 24
    rwa [show (w.alloc (.cells (fbox l ea ec root) 24)).heap.size = w.heap.size + 1 by simp] at this)
  have hz0 : w.heap.size + 1 + 1 ≤ ((w.alloc (.cells (fbox l ea ec root) 24)).alloc (.cells zfile 24)).heap.size := by simp
  obtain ⟨b, off, hea, hrows⟩ := hin.at_
  have HEA := hide hea
  have HRW := hide hrows
  clear hin hea hrows
  go_enter Tryd.func7, Tryd.ntmps7
  go_wp2_with fail
  go_loopw [3, 4] (fun vl vi wr => ∃ (k : Nat) (l' : List EEnt) (U : List EP), vi = .int .i64 k ∧ Hid (U.length + k = l.length ∧ ERows w U b (off + k * 8) ∧ eps l' ++ U = l ∧ l'.length = k ∧ ERow wr (w.heap.size + 1 + 1) vl l' ∧ Below w.heap.size w wr ∧ Blk wr w.heap.size (fbox l ea ec root) 24 ∧ Blk wr (w.heap.size + 1) zfile 24 ∧ w.heap.size + 1 + 1 ≤ wr.heap.size)) (fun _ vi _ => l.length - (intOf vi).toNat)
  case atStart => exact ⟨0, [], l, rfl, hide ⟨by omega, by simpa using HRW.out, rfl, rfl, ERow.nil _ _, HB0.out, HK0.out, HZ0.out, hz0⟩⟩
  case round =>
    clear HB0 HK0 HZ0 HRW hz0
    obtain ⟨k, l', U, rfl, HV⟩ := hrel
    obtain ⟨hk, hrow, hj, hlen, hor, hbel, hblk, hzb, hsz⟩ := HV.out
    have HB := hide hbel
    have HK := hide hblk
    have HZ := hide hzb
    have HOR := hide hor
    have HJ := hide hj
    have HLN := hide hlen
    obtain ⟨⟨s0, s1⟩, _⟩ := hblk.two
    have hk0 : (0 : Int) ≤ (k : Int) := by omega
    cases U with
    | nil =>
      have hk' : (l.length : Int) ≤ (k : Int) := by simp at hk; omega
      have hjl : eps l' = l := by simpa using hj
      obtain ⟨fa, fc, rfl, hfin⟩ := hor.file (by rw [hlen]; simp at hk; have := HI.out.1.1.2; omega) (by rw [hjl]; exact HI.out.2.1)
      rw [hjl] at hfin ⊢
      have HFI := hide hfin
      obtain ⟨⟨r0, r1⟩, y0, y1⟩ := hzb.two
      clear HV hk hrow hj hlen hor hbel hblk hzb hjl hfin
      go_wp2_with fail
      have hbf : Below w.heap.size w ((wr.setCell ⟨w.heap.size + 1, 0, none⟩ (.slice fa l.length fc)).setCell ⟨w.heap.size + 1, 1, none⟩ (.int .i64 root)) := (HB.out.setCell (p := ⟨w.heap.size + 1, 0, none⟩) (by simp) _).setCell (p := ⟨w.heap.size + 1, 1, none⟩) (by simp) _
      have hkf := (HZ.out.set 0 (.slice fa l.length fc)).set 1 (.int .i64 root)
      have hsub : Sub (fresh (w.heap.size + 1 + 1) wr) (fresh w.heap.size ((wr.setCell ⟨w.heap.size + 1, 0, none⟩ (.slice fa l.length fc)).setCell ⟨w.heap.size + 1, 1, none⟩ (.int .i64 root))) := by
        refine only_sub (by simp [World.setCell]) fun k h1 h2 => ⟨by omega, ?_⟩
        rw [Below.heap_setCell _ _ _ _ (by simp; omega), Below.heap_setCell _ _ _ _ (by simp; omega)]
      generalize ((wr.setCell ⟨w.heap.size + 1, 0, none⟩ (.slice fa l.length fc)).setCell ⟨w.heap.size + 1, 1, none⟩ (.int .i64 root)) = wf at hbf hkf hsub ⊢
      have f0 := hkf.cell 0
      have f1 := hkf.cell 1
      simp at f0 f1
      refine bodyPost_ret (v := fv l fa fc root) (by simp [results, Tryd.results7, go_sem, f0, f1]) rfl ⟨⟨fa, fc, rfl, HFI.out.sub hsub⟩, hbf⟩
    | cons x U =>
      obtain ⟨⟨⟨ka, kc, ia, ic, g6, gin⟩, gs, gd⟩, grest⟩ := hrow
      obtain rfl | ⟨rfl, hbz⟩ := HEA.out
      · simp at hk
      have hlt : (k : Int) < (l.length : Int) := by simp at hk; omega
      have hal := (Below.refl wr.heap.size wr).alloc (Nat.le_refl _) (.cells (ebox x ka kc ia ic) 41)
      have CI := hide (rcopy_any x.p x.T ka kc ia ic (wr.alloc (.cells (ebox x ka kc ia ic) 41)) ((gin.below hbel).below hal))
      have HAL := hide hal
      have HX0 := hide (Blk.new wr (ebox x ka kc ia ic) 41)
      obtain ⟨c0, c1, c2, c3, c4, c5⟩ := g6.below hbz hbel
      have c6 := (hbel.cell (p := ⟨b, off + k * 8 + 6, none⟩) hbz).trans gs
      have c7 := (hbel.cell (p := ⟨b, off + k * 8 + 7, none⟩) hbz).trans gd
      have HGR := hide grest
      have HKK := hide (show U.length + (k + 1) = l.length by simp at hk; omega)
      have HSZ := hide hsz
      clear HV hk hj hlen hor hbel hblk hzb g6 gin gs gd grest hal
      go_wp2_with fail
      refine CI.out.mono ?_
      rintro e w2 ⟨⟨kb, kd, ib, id, rfl, hin2⟩, h2⟩
      have h2' : Below wr.heap.size wr w2 := below_t5 HAL.out h2
      have hx2 := HX0.out.below h2
      have hlt2 : wr.heap.size < w2.heap.size := hx2.lt
      obtain ⟨_, z0, z1, z2, z3, z4, z5⟩ := hx2.eight
      obtain ⟨⟨d0, d1, d2, d3, d4, d5, d6, d7⟩, _⟩ := hx2.eight
      have hx3 := st6_blk8 hx2 (.int .i64 x.p.kind) (.bool x.p.flag) (.int .i64 x.p.num) (.string x.p.text) (.slice kb x.p.keys.length kd) (.slice ib (flen x.T) id)
      obtain ⟨⟨e0, e1, e2, e3, e4, e5, e6, e7⟩, _⟩ := hx3.eight
      have hb3 : Below wr.heap.size wr (st6 w2 wr.heap.size (.int .i64 x.p.kind) (.bool x.p.flag) (.int .i64 x.p.num) (.string x.p.text) (.slice kb x.p.keys.length kd) (.slice ib (flen x.T) id)) := st6_below h2' (Nat.le_refl _) _ _ _ _ _ _
      have hli : (EEnt.mk x kb kd ib id).lies (fresh wr.heap.size (st6 w2 wr.heap.size (.int .i64 x.p.kind) (.bool x.p.flag) (.int .i64 x.p.num) (.string x.p.text) (.slice kb x.p.keys.length kd) (.slice ib (flen x.T) id))) :=
        OIn.sub (only_sub (by rw [st6_size]; exact Nat.le_refl _) fun k h1 h2 => ⟨by simp at h1; omega, st6_block (by simp at h1; omega) _ _ _ _ _ _⟩) hin2
      obtain ⟨g, cap, w5, hr, hor5, hb5⟩ := app_ent (EEnt.mk x kb kd ib id) HOR.out hb3.size (fun k h1 h2 => hb3.block k h2) HSZ.out hli (by rw [HLN.out]; have := HI.out.1.1.2; omega) w2.heap.size (by rw [st6_size])
      have HR := hide hr
      have HO5 := hide hor5
      have HB5 := hide (show Below w.heap.size w w5 from (below_t5 HB.out hb3).trans (hb5.mono (by omega)))
      have HK5 := hide ((HK.out.below hb3).kept hb5 (by omega))
      have HZ5 := hide ((HZ.out.below hb3).kept hb5 (by omega))
      have HS5 := hide (show w.heap.size + 1 + 1 ≤ w5.heap.size from Nat.le_trans (Nat.le_trans HSZ.out hb3.size) hb5.size)
      clear hr hor5 hb5 hli hb3 hx3 hx2 h2' h2 hin2 CI c0 c1 c2 c3 c4 c5 c6 c7 d6 d7
      go_wp2_with (at_builtin; refine Lib.wpList_append_run _ rfl _ _ _ _ rfl _ _ rfl rfl _ _ HR.out ?_)
      go_roundw
      case rel =>
        exact ⟨k + 1, l' ++ [EEnt.mk x kb kd ib id], U, by go_num, hide ⟨HKK.out, by have := HGR.out; rw [show off + (k + 1) * 8 = off + k * 8 + 8 by omega]; exact this, by have := HJ.out; simpa using this, by simp [HLN.out], HO5.out, HB5.out, HK5.out, HZ5.out, HS5.out⟩⟩
      case measure => simp [intOf]; omega
end Go.Proofs.YtlnkddmpcicejaaDoor
/-
  What the reference's Same of two files (chapter 6) answers, where both have the same entries.
-/
namespace Go.Proofs.YtlnkddmpcicejaaDoor
open Go.RowKit Go.Deep
set_option linter.unusedVariables false

theorem two_new (wr : World) (A B : Array Value) (t : TypeId) : Blk (((wr.alloc (.cells A t)).alloc (.cells B t)).drew) wr.heap.size A t ∧ Blk (((wr.alloc (.cells A t)).alloc (.cells B t)).drew) (wr.heap.size + 1) B t ∧ Below wr.heap.size wr (((wr.alloc (.cells A t)).alloc (.cells B t)).drew) := by
  have h1 : Blk ((wr.alloc (.cells A t)).alloc (.cells B t)) wr.heap.size A t := (Blk.new wr A t).below ((Below.refl _ _).alloc (Nat.le_refl _) _)
  have h2 : Blk ((wr.alloc (.cells A t)).alloc (.cells B t)) (wr.heap.size + 1) B t := by
    have := Blk.new (wr.alloc (.cells A t)) B t
    rwa [show (wr.alloc (.cells A t)).heap.size = wr.heap.size + 1 by simp] at this
  have h3 : Below wr.heap.size wr ((wr.alloc (.cells A t)).alloc (.cells B t)) := ((Below.refl _ _).alloc (Nat.le_refl _) _).alloc (by simp) _
  exact ⟨h1, h2, ⟨h3.os, h3.tape, h3.output, h3.size, h3.block⟩⟩
end Go.Proofs.YtlnkddmpcicejaaDoor
