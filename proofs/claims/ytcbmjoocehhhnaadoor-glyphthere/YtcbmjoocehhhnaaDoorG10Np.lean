/-
  New numbers for components, in plain words; rows of bytes made out of a text; the reference's Two.
-/
import Derived.Test.YtcbmjoocehhhnaaDoorG10Wk
import Derived.Lib.ConvBytes
namespace Go.Proofs.YtcbmjoocehhhnaaDoor
open Go.RowKit Go.Deep
set_option linter.unusedVariables false
set_option linter.unusedSimpArgs false

def hiB (x : Int) : UInt8 := UInt8.ofNat (x / 256 % 256).toNat
def loB (x : Int) : UInt8 := UInt8.ofNat (x % 256).toNat
theorem hiB_cell (x : Int) : bcell (hiB x) = .int .u8 (x / 256 % 256) := by
  unfold bcell hiB
  have h0 : 0 ≤ x / 256 % 256 := Int.emod_nonneg _ (by omega)
  have h1 : x / 256 % 256 < 256 := Int.emod_lt_of_pos _ (by omega)
  rw [UInt8.toNat_ofNat']
  congr 1
  omega
theorem loB_cell (x : Int) : bcell (loB x) = .int .u8 (x % 256) := by
  unfold bcell loB
  have h0 : 0 ≤ x % 256 := Int.emod_nonneg _ (by omega)
  have h1 : x % 256 < 256 := Int.emod_lt_of_pos _ (by omega)
  rw [UInt8.toNat_ofNat']
  congr 1
  omega
def put1 (ys : List UInt8) (k : Nat) (x : Int) : List UInt8 := (ys.set k (hiB x)).set (k + 1) (loB x)
def fidx (old : List Int) (x : Nat) : Option Nat := (old.take 65536).findIdx? (fun z => z == (x : Int))
theorem idxFrom_eq (x : Int) : ∀ (zs : List Int) (i : Nat), Lib.idxFrom zs x i = match zs.findIdx? (fun z => z == x) with | some k => ((i + k : Nat) : Int) | none => -1
  | [], i => rfl
  | z :: zs, i => by
    rw [Lib.idxFrom, List.findIdx?_cons]
    by_cases h : z = x
    · simp [h]
    · have hb : (z == x) = false := by simpa using h
      rw [if_neg h, idxFrom_eq x zs (i + 1), hb]
      cases zs.findIdx? (fun z => z == x) with
      | none => simp
      | some k =>
        show ((i + 1 + k : Nat) : Int) = ((i + (k + 1) : Nat) : Int)
        rw [Nat.add_assoc, Nat.add_comm 1 k]
theorem idx_eq (old : List Int) (x : Nat) : Lib.idxOf (old.take 65536) (x : Int) = match fidx old x with | some k => (k : Int) | none => -1 := by
  unfold Lib.idxOf fidx
  rw [idxFrom_eq]
  cases (old.take 65536).findIdx? (fun z => z == (x : Int)) with
  | none => rfl
  | some k => simp
theorem fidx_some {old : List Int} {x k : Nat} (h : fidx old x = some k) : k < old.length ∧ k ≤ 65535 ∧ old.getD k 0 = (x : Int) ∧ ∀ j, j < k → old.getD j 0 ≠ (x : Int) := by
  unfold fidx at h
  rw [List.findIdx?_eq_some_iff_getElem] at h
  obtain ⟨h1, h2, h3⟩ := h
  rw [List.length_take] at h1
  have hk : k < old.length := by omega
  refine ⟨hk, by omega, ?_, fun j hj => ?_⟩
  · rw [List.getElem_take] at h2
    rw [List.getD_eq_getElem?_getD, List.getElem?_eq_getElem hk]
    simpa using h2
  · have := h3 j hj
    rw [List.getElem_take] at this
    rw [List.getD_eq_getElem?_getD, List.getElem?_eq_getElem (by omega)]
    simpa using this
theorem fidx_none {old : List Int} {x : Nat} (h : fidx old x = none) : ∀ j, j < old.length → j ≤ 65535 → old.getD j 0 ≠ (x : Int) := by
  unfold fidx at h
  rw [List.findIdx?_eq_none_iff] at h
  intro j hj hk
  have hm : old.getD j 0 ∈ old.take 65536 := by
    rw [List.getD_eq_getElem?_getD, List.getElem?_eq_getElem hj]
    show old[j] ∈ _
    rw [List.mem_take_iff_getElem]
    exact ⟨j, by omega, rfl⟩
  simpa using h _ hm
theorem fidx_of {old : List Int} {x k : Nat} (h1 : k < old.length) (h2 : k ≤ 65535) (h3 : old.getD k 0 = (x : Int)) (h4 : ∀ j, j < k → old.getD j 0 ≠ (x : Int)) : fidx old x = some k := by
  cases h : fidx old x with
  | none => exact absurd h3 (fidx_none h k h1 h2)
  | some m =>
    obtain ⟨a, b, c, d⟩ := fidx_some h
    rcases Nat.lt_trichotomy k m with e | e | e
    · exact absurd h3 (d k e)
    · rw [e]
    · exact absurd c (h4 m e)
theorem fidx_not {old : List Int} {x k : Nat} (h3 : k = old.length ∨ 65535 < k) (h4 : ∀ j, j < k → old.getD j 0 ≠ (x : Int)) : fidx old x = none := by
  cases h : fidx old x with
  | none => rfl
  | some m =>
    obtain ⟨a, b, c, d⟩ := fidx_some h
    exact absurd c (h4 m (by omega))
def rnV (l : List UInt8) (old : List Int) : List Nat → List UInt8 → Option (List UInt8)
  | [], m => some m
  | p :: ps, m => match fidx old (n2 l p) with
    | none => none
    | some k => rnV l old ps (put1 m p (k : Int))
theorem put1_len (m : List UInt8) (p : Nat) (x : Int) : (put1 m p x).length = m.length := by simp [put1]
/- bytes that lie in a block that is marked behind its end -/
def BM (w : World) (g : Nat) (m : List UInt8) : Prop := ∃ cur, w.heap[g]? = some (.cells cur 5 (cur.size, cur.size + 1)) ∧ m.length ≤ cur.size ∧ ∀ j, j < m.length → cur[j]? = some (bcell (m.getD j 0))
theorem BM.lt {w : World} {g : Nat} {m : List UInt8} (h : BM w g m) : g < w.heap.size := by
  obtain ⟨cur, h1, _⟩ := h
  rcases Nat.lt_or_ge g w.heap.size with hl | hl
  · exact hl
  · rw [Array.getElem?_eq_none hl] at h1; cases h1
theorem BM.cell {w : World} {g : Nat} {m : List UInt8} (h : BM w g m) (j : Nat) (hj : j < m.length) : w.cell? ⟨g, j, none⟩ = some (.int .u8 ((m.getD j 0).toNat : Int)) := by
  obtain ⟨cur, h1, h2, h3⟩ := h
  have := h3 j hj
  unfold World.cell?
  simp [h1]
  rw [this]; rfl
theorem BM.frozen {w : World} {g : Nat} {m : List UInt8} (h : BM w g m) (j : Nat) (hj : j < m.length) : w.frozen? ⟨g, j, none⟩ = false := by
  obtain ⟨cur, h1, h2, h3⟩ := h
  unfold World.frozen?
  simp [h1]
  omega
theorem BM.set {w : World} {g : Nat} {m : List UInt8} (h : BM w g m) (j : Nat) (hj : j < m.length) (c : UInt8) : BM (w.setCell ⟨g, j, none⟩ (bcell c)) g (m.set j c) := by
  obtain ⟨cur, h1, h2, h3⟩ := h
  refine ⟨cur.setIfInBounds j (bcell c), ?_, by simpa using h2, fun i hi => ?_⟩
  · simp [World.setCell, Array.getElem?_modify, h1]
  · have hi' : i < m.length := by simpa using hi
    rw [Array.getElem?_setIfInBounds]
    by_cases e : j = i
    · subst e
      rw [if_pos rfl, if_pos (by omega), List.getD_eq_getElem?_getD, List.getElem?_set_self hi']
      rfl
    · rw [if_neg e, h3 i hi', List.getD_eq_getElem?_getD, List.getD_eq_getElem?_getD, List.getElem?_set_ne e]
theorem BM.below {w w' : World} {g : Nat} {m : List UInt8} (h : BM w g m) (hb : Below w.heap.size w w') : BM w' g m := by
  have hl := h.lt
  obtain ⟨cur, h1, h2, h3⟩ := h
  exact ⟨cur, by rw [hb.block g hl]; exact h1, h2, h3⟩
theorem BM.text {w : World} {g c : Nat} {m : List UInt8} (h : BM w g m) : (convert 63 9 (.slice (some ⟨g, 0, none⟩) m.length c)).run Tryd.prog w = .ok (.string ⟨m.toArray⟩) w := by
  refine run_convert_bytes_back (P := Tryd.prog) w 63 9 5 ⟨g, 0, none⟩ c m Tryd.underlying63 Tryd.underlying5 Tryd.underlying9 ?_
  intro j hj
  rw [Go.WideShapes.add_plain, Nat.zero_add, h.cell j hj, List.getD_eq_getElem?_getD, List.getElem?_eq_getElem hj]
  rfl
theorem BM.new (w : World) (s : ByteArray) : BM (Lib.bytesWorld w 5 s) w.heap.size s.data.toList := by
  refine ⟨_, Lib.bytesWorld_at_new w 5 s, ?_, fun j hj => ?_⟩
  · rw [← Lib.size_eq]
    have : s.size ≤ (s.data.map fun b => Value.int .u8 b.toNat).size := by simp
    unfold Lib.bytesCells
    rw [Array.size_append]
    omega
  · have hj' : j < s.size := by rw [Lib.size_eq]; exact hj
    have := Lib.bytesWorld_cell w 5 s j hj'
    unfold World.cell? at this
    simp [Lib.bytesWorld_at_new] at this
    rw [this]
    simp [bcell]
theorem bytes_below (w : World) (s : ByteArray) : Below w.heap.size w (Lib.bytesWorld w 5 s) := ⟨rfl, rfl, rfl, by rw [Lib.bytesWorld_size]; omega, fun k hk => Lib.bytesWorld_at_old w _ s k hk⟩
theorem BM.put {w : World} {g : Nat} {m : List UInt8} (h : BM w g m) (p : Nat) (hp : p + 2 ≤ m.length) (x : Int) : BM ((w.setCell ⟨g, p, none⟩ (.int .u8 (x / 256 % 256))).setCell ⟨g, p + 1, none⟩ (.int .u8 (x % 256))) g (put1 m p x) := by
  rw [← hiB_cell, ← loB_cell]
  exact (h.set p (by omega) (hiB x)).set (p + 1) (by simp; omega) (loB x)
/- put1, by pieces -/
theorem put1_cut (m : List UInt8) (p : Nat) (x : Int) (hp : p + 2 ≤ m.length) : put1 m p x = m.take p ++ [hiB x, loB x] ++ m.drop (p + 2) := by
  apply List.ext_getElem?
  intro i
  unfold put1
  rw [List.append_assoc]
  rcases Nat.lt_trichotomy i p with h | h | h
  · rw [List.getElem?_set_ne (by omega), List.getElem?_set_ne (by omega), List.getElem?_append_left (by simp; omega), List.getElem?_take, if_pos h]
  · subst h
    rw [List.getElem?_set_ne (by omega), List.getElem?_set_self (by omega), List.getElem?_append_right (by simp; omega)]
    simp [Nat.min_eq_left (show i ≤ m.length by omega)]
  · by_cases h2 : i = p + 1
    · subst h2
      rw [List.getElem?_set_self (by simp; omega), List.getElem?_append_right (by simp; omega)]
      simp [Nat.min_eq_left (show p ≤ m.length by omega)]
    · rw [List.getElem?_set_ne (by omega), List.getElem?_set_ne (by omega), List.getElem?_append_right (by simp; omega)]
      have e : (m.take p).length = p := by simp; omega
      rw [e, List.getElem?_append_right (by simp; omega)]
      simp
      congr 1
      omega
theorem rtwo_any (x : Int) (w : World) (h0 : -4611686018427387904 ≤ x) (h1 : x ≤ 4611686018427387904) : Calls Tryd.prog 39 #[.int .i64 x] w fun e w' => e = .returned (.string ⟨#[hiB x, loB x]⟩) ∧ Below w.heap.size w w' := by
  have CV : (convert 63 9 (.slice (some ⟨w.heap.size, 0, none⟩) 2 2)).run Tryd.prog (w.alloc (.cells #[.int .u8 (x / 256 % 256), .int .u8 (x % 256)] 5)) = .ok (.string ⟨[hiB x, loB x].toArray⟩) (w.alloc (.cells #[.int .u8 (x / 256 % 256), .int .u8 (x % 256)] 5)) := by
    refine run_convert_bytes_back (P := Tryd.prog) _ 63 9 5 ⟨w.heap.size, 0, none⟩ 2 [hiB x, loB x] Tryd.underlying63 Tryd.underlying5 Tryd.underlying9 ?_
    intro j hj
    rw [Go.WideShapes.add_plain, Nat.zero_add, World.cell?_alloc_at _ _ _ _ rfl]
    have e1 := hiB_cell x
    have e2 := loB_cell x
    unfold bcell at e1 e2
    match j, hj with
    | 0, _ => exact congrArg some e1.symm
    | 1, _ => exact congrArg some e2.symm
  have HB := hide ((Below.refl w.heap.size w).alloc (Nat.le_refl _) (.cells #[.int .u8 (x / 256 % 256), .int .u8 (x % 256)] 5))
  generalize (⟨[hiB x, loB x].toArray⟩ : ByteArray) = T at CV ⊢
  go_enter Tryd.func39, Tryd.ntmps39
  go_wp2_with fail
  go_ret
  exact ⟨rfl, HB.out⟩
end Go.Proofs.YtcbmjoocehhhnaaDoor
