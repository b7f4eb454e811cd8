/-
  Joined: G10Np.
-/
import Derived.Lib.ConvBytes
import Derived.Test.YthnpnkiomknkeaaDoorC13
namespace Go.Proofs.YthnpnkiomknkeaaDoor.G10
open Go.RowKit Go.Deep
set_option linter.unusedVariables false
set_option linter.unusedSimpArgs false
def hiB (x : Int) : UInt8 := UInt8.ofNat (x / 256 % 256).toNat
def loB (x : Int) : UInt8 := UInt8.ofNat (x % 256).toNat
theorem hiB_cell (x : Int) : bcell (hiB x) = .int .u8 (x / 256 % 256) := by
  unfold bcell hiB
  have h0 : 0 ≤ x / 256 % 256 := Int.emod_nonneg _ (by omega)
  have h1 : x / 256 % 256 < 256 := Int.emod_lt_of_pos _ (by omega)
  rw [UInt8.toNat_ofNat']
  congr 1
  omega
theorem loB_cell (x : Int) : bcell (loB x) = .int .u8 (x % 256) := by
  unfold bcell loB
  have h0 : 0 ≤ x % 256 := Int.emod_nonneg _ (by omega)
  have h1 : x % 256 < 256 := Int.emod_lt_of_pos _ (by omega)
  rw [UInt8.toNat_ofNat']
  congr 1
  omega
def put1 (ys : List UInt8) (k : Nat) (x : Int) : List UInt8 := (ys.set k (hiB x)).set (k + 1) (loB x)
def fidx (old : List Int) (x : Nat) : Option Nat := (old.take 65536).findIdx? (fun z => z == (x : Int))
theorem idxFrom_eq (x : Int) : ∀ (zs : List Int) (i : Nat), Lib.idxFrom zs x i = match zs.findIdx? (fun z => z == x) with | some k => ((i + k : Nat) : Int) | none => -1
  | [], i => rfl
  | z :: zs, i => by
    rw [Lib.idxFrom, List.findIdx?_cons]
    by_cases h : z = x
    · simp [h]
    · have hb : (z == x) = false := by simpa using h
      rw [if_neg h, idxFrom_eq x zs (i + 1), hb]
      cases zs.findIdx? (fun z => z == x) with
      | none => simp
      | some k =>
        show ((i + 1 + k : Nat) : Int) = ((i + (k + 1) : Nat) : Int)
        rw [Nat.add_assoc, Nat.add_comm 1 k]
theorem idx_eq (old : List Int) (x : Nat) : Lib.idxOf (old.take 65536) (x : Int) = match fidx old x with | some k => (k : Int) | none => -1 := by
  unfold Lib.idxOf fidx
  rw [idxFrom_eq]
  cases (old.take 65536).findIdx? (fun z => z == (x : Int)) with
  | none => rfl
  | some k => simp
theorem fidx_some {old : List Int} {x k : Nat} (h : fidx old x = some k) : k < old.length ∧ k ≤ 65535 ∧ old.getD k 0 = (x : Int) ∧ ∀ j, j < k → old.getD j 0 ≠ (x : Int) := by
  unfold fidx at h
  rw [List.findIdx?_eq_some_iff_getElem] at h
  obtain ⟨h1, h2, h3⟩ := h
  rw [List.length_take] at h1
  have hk : k < old.length := by omega
  refine ⟨hk, by omega, ?_, fun j hj => ?_⟩
  · rw [List.getElem_take] at h2
    rw [List.getD_eq_getElem?_getD, List.getElem?_eq_getElem hk]
    simpa using h2
  · have := h3 j hj
    rw [List.getElem_take] at this
    rw [List.getD_eq_getElem?_getD, List.getElem?_eq_getElem (by omega)]
    simpa using this
def rnV (l : List UInt8) (old : List Int) : List Nat → List UInt8 → Option (List UInt8)
  | [], m => some m
  | p :: ps, m => match fidx old (n2 l p) with
    | none => none
    | some k => rnV l old ps (put1 m p (k : Int))
theorem put1_len (m : List UInt8) (p : Nat) (x : Int) : (put1 m p x).length = m.length := by simp [put1]
def BM (w : World) (g : Nat) (m : List UInt8) : Prop := ∃ cur, w.heap[g]? = some (.cells cur 5 (cur.size, cur.size + 1)) ∧ m.length ≤ cur.size ∧ ∀ j, j < m.length → cur[j]? = some (bcell (m.getD j 0))
theorem BM.lt {w : World} {g : Nat} {m : List UInt8} (h : BM w g m) : g < w.heap.size := by
  obtain ⟨cur, h1, _⟩ := h
  rcases Nat.lt_or_ge g w.heap.size with hl | hl
  · exact hl
  · rw [Array.getElem?_eq_none hl] at h1; cases h1
theorem BM.cell {w : World} {g : Nat} {m : List UInt8} (h : BM w g m) (j : Nat) (hj : j < m.length) : w.cell? ⟨g, j, none⟩ = some (.int .u8 ((m.getD j 0).toNat : Int)) := by
  obtain ⟨cur, h1, h2, h3⟩ := h
  have := h3 j hj
  unfold World.cell?
  simp [h1]
  rw [this]; rfl
theorem BM.frozen {w : World} {g : Nat} {m : List UInt8} (h : BM w g m) (j : Nat) (hj : j < m.length) : w.frozen? ⟨g, j, none⟩ = false := by
  obtain ⟨cur, h1, h2, h3⟩ := h
  unfold World.frozen?
  simp [h1]
  omega
theorem BM.set {w : World} {g : Nat} {m : List UInt8} (h : BM w g m) (j : Nat) (hj : j < m.length) (c : UInt8) : BM (w.setCell ⟨g, j, none⟩ (bcell c)) g (m.set j c) := by
  obtain ⟨cur, h1, h2, h3⟩ := h
  refine ⟨cur.setIfInBounds j (bcell c), ?_, by simpa using h2, fun i hi => ?_⟩
  · simp [World.setCell, Array.getElem?_modify, h1]
  · have hi' : i < m.length := by simpa using hi
    rw [Array.getElem?_setIfInBounds]
    by_cases e : j = i
    · subst e
      rw [if_pos rfl, if_pos (by omega), List.getD_eq_getElem?_getD, List.getElem?_set_self hi']
      rfl
    · rw [if_neg e, h3 i hi', List.getD_eq_getElem?_getD, List.getD_eq_getElem?_getD, List.getElem?_set_ne e]
theorem BM.text {w : World} {g c : Nat} {m : List UInt8} (h : BM w g m) : (convert 89 9 (.slice (some ⟨g, 0, none⟩) m.length c)).run Tryd.prog w = .ok (.string ⟨m.toArray⟩) w := by
  refine run_convert_bytes_back (P := Tryd.prog) w 89 9 5 ⟨g, 0, none⟩ c m Tryd.underlying89 Tryd.underlying5 Tryd.underlying9 ?_
  intro j hj
  rw [Go.WideShapes.add_plain, Nat.zero_add, h.cell j hj, List.getD_eq_getElem?_getD, List.getElem?_eq_getElem hj]
  rfl
theorem BM.new (w : World) (s : ByteArray) : BM (Lib.bytesWorld w 5 s) w.heap.size s.data.toList := by
  refine ⟨_, Lib.bytesWorld_at_new w 5 s, ?_, fun j hj => ?_⟩
  · rw [← Lib.size_eq]
    have : s.size ≤ (s.data.map fun b => Value.int .u8 b.toNat).size := by simp
    unfold Lib.bytesCells
    rw [Array.size_append]
    omega
  · have hj' : j < s.size := by rw [Lib.size_eq]; exact hj
    have := Lib.bytesWorld_cell w 5 s j hj'
    unfold World.cell? at this
    simp [Lib.bytesWorld_at_new] at this
    rw [this]
    simp [bcell]
theorem bytes_below (w : World) (s : ByteArray) : Below w.heap.size w (Lib.bytesWorld w 5 s) := ⟨rfl, rfl, rfl, by rw [Lib.bytesWorld_size]; omega, fun k hk => Lib.bytesWorld_at_old w _ s k hk⟩
theorem BM.put {w : World} {g : Nat} {m : List UInt8} (h : BM w g m) (p : Nat) (hp : p + 2 ≤ m.length) (x : Int) : BM ((w.setCell ⟨g, p, none⟩ (.int .u8 (x / 256 % 256))).setCell ⟨g, p + 1, none⟩ (.int .u8 (x % 256))) g (put1 m p x) := by
  rw [← hiB_cell, ← loB_cell]
  exact (h.set p (by omega) (hiB x)).set (p + 1) (by simp; omega) (loB x)
end Go.Proofs.YthnpnkiomknkeaaDoor.G10
