/-
  Rows of attributes that a call owns; what named answers; what opening goes through, in plain words.
-/
import Derived.Test.YtpmdekhjodhdmaaDoorK17O2
import Derived.Deep.AppendLies
import Derived.Deep.AppendSrc
namespace Go.Proofs.YtpmdekhjodhdmaaDoor.K17
open Go.RowKit Go.Proofs.YtpmdekhjodhdmaaDoor
open Go.Lib
set_option linter.unusedVariables false
set_option linter.unusedSimpArgs false
set_option maxRecDepth 8000

abbrev At := List UInt8 × List UInt8
abbrev acs (p : At) : List Value := [.string ⟨p.1.toArray⟩, .string ⟨p.2.toArray⟩]
def flA (ps : List At) : List Value := ps.flatMap acs
theorem flA_len (ps : List At) : (flA ps).length = ps.length * 2 := by
  induction ps with
  | nil => rfl
  | cons x r ih => unfold flA at *; rw [List.flatMap_cons, List.length_append, ih]; simp; omega
theorem flA_snoc (ps : List At) (x : At) : flA (ps ++ [x]) = flA ps ++ acs x := by unfold flA; rw [List.flatMap_append]; simp
theorem flA_cons (x : At) (r : List At) : flA (x :: r) = acs x ++ flA r := by unfold flA; rw [List.flatMap_cons]
theorem flA_at (ps : List At) : ∀ i j, i < ps.length → j < 2 → (flA ps)[i * 2 + j]? = (acs (ps.getD i ([], [])))[j]? := by
  induction ps with
  | nil => intro i j h; simp at h
  | cons x r ih =>
    intro i j h hj
    rw [flA_cons]
    cases i with
    | zero => rw [List.getElem?_append_left (by simp; omega)]; simp
    | succ i =>
      rw [List.getElem?_append_right (by simp; omega)]
      have := ih i j (by simpa using h) hj
      simp only [List.length_cons, List.length_nil] at *
      rw [show (i + 1) * 2 + j - (0 + 1 + 1) = i * 2 + j by omega, this]
      simp
theorem acs_one (c : At) : ∀ u ∈ acs c, u.oneCell' = true := by
  intro u hu
  simp only [acs, List.mem_cons, List.not_mem_nil, or_false] at hu
  rcases hu with rfl | rfl <;> rfl
def ARow (w : World) (B : Nat) (v : Value) (ps : List At) : Prop := w.ownsRow B 47 2 v ps.length (flA ps)
theorem ARow.nil (w : World) (B : Nat) : ARow w B (.slice none 0 0) [] := World.ownsRow_nil _ _ _ _
theorem ARow.but {b : Nat} {w w' : World} {B : Nat} {v : Value} {ps : List At} (h : ARow w B v ps) (hb : But b w w') (hB : b < B) : ARow w' B v ps := by
  obtain ⟨h1, h2 | ⟨g, cap, cur, hv, hg, hh, hr⟩⟩ := h
  · exact ⟨h1, Or.inl h2⟩
  · exact ⟨h1, Or.inr ⟨g, cap, cur, hv, hg, by rw [hb.block g (heap_lt hh) (by omega)]; exact hh, hr⟩⟩
theorem ARow.below {w w' : World} {B : Nat} {v : Value} {ps : List At} (h : ARow w B v ps) (hb : Below w.heap.size w w') : ARow w' B v ps := ownsRow_kc h (KC.of_below hb)
/- a cell of another type is set -/
theorem ARow.set {w : World} {B : Nat} {v : Value} {ps : List At} (h : ARow w B v ps) {c : Nat} {cs : Array Value} {t : TypeId} (hc : Blk w c cs t) (ht : t ≠ 47) (j : Nat) (u : Value) : ARow (w.setCell ⟨c, j, none⟩ u) B v ps := by
  obtain ⟨h1, h2 | ⟨g, cap, cur, hv, hg, hh, hr⟩⟩ := h
  · exact ⟨h1, Or.inl h2⟩
  · refine ⟨h1, Or.inr ⟨g, cap, cur, hv, hg, ?_, hr⟩⟩
    rw [Below.heap_setCell _ _ _ _ (show g ≠ c by
      rintro rfl
      unfold Blk at hc
      rw [hc] at hh
      injection hh with hh
      injection hh with _ e _
      exact ht e)]
    exact hh
theorem info_at : (Tryd.prog.info? 47).map (fun i => (i.zero, i.size, i.bytes)) = some (some (.agg #[.string ⟨#[]⟩, .string ⟨#[]⟩]), 2, 32) := by kernel_rfl
/- attributes lie in memory -/
def ALs (w : World) (a : Option Addr) (ps : List At) : Prop :=
  ps = [] ∨ ∃ b off, a = some ⟨b, off, none⟩ ∧ b < w.heap.size ∧ ∀ i, i < ps.length → w.cell? ⟨b, off + i * 2, none⟩ = some (.string ⟨(ps.getD i ([], [])).1.toArray⟩) ∧ w.cell? ⟨b, off + i * 2 + 1, none⟩ = some (.string ⟨(ps.getD i ([], [])).2.toArray⟩)
theorem ALs.below {w w' : World} {a : Option Addr} {ps : List At} (h : ALs w a ps) (hb : Below w.heap.size w w') : ALs w' a ps := by
  rcases h with h | ⟨b, off, h1, h2, h3⟩
  · exact Or.inl h
  · refine Or.inr ⟨b, off, h1, Nat.lt_of_lt_of_le h2 hb.size, fun i hi => ?_⟩
    rw [hb.cell (p := ⟨b, off + i * 2, none⟩) h2, hb.cell (p := ⟨b, off + i * 2 + 1, none⟩) h2]
    exact h3 i hi
theorem ARow.lst {w : World} {B : Nat} {v : Value} {ps : List At} (h : ARow w B v ps) : ∃ a cap, v = .slice a ps.length cap ∧ ALs w a ps ∧ ps.length ≤ cap ∧ cap ≤ 9223372036854775807 := by
  have h' := h
  obtain ⟨_, ⟨h0, hz⟩ | ⟨g, cap, cur, hv, hg, hh, hc, hm, _⟩⟩ := h'
  · obtain rfl : ps = [] := List.eq_nil_of_length_eq_zero hz
    exact ⟨none, 0, h0, Or.inl rfl, by simp, by omega⟩
  · refine ⟨_, cap, hv, ?_, hc, by unfold maxLen at hm; exact hm⟩
    rw [hv] at h
    refine Or.inr ⟨g, 0, rfl, heap_lt hh, fun i hi => ?_⟩
    have hcell : ∀ j, j < 2 → w.cell? ⟨g, i * 2 + j, none⟩ = (acs (ps.getD i ([], [])))[j]? := fun j hj => by
      rw [World.ownsRow.cellAt h (i * 2 + j) (by omega), flA_at ps i j hi hj]
    rw [Nat.zero_add]
    exact ⟨hcell 0 (by omega), hcell 1 (by omega)⟩
/- one attribute appended -/
theorem app_at {W : World} {B : Nat} {v : Value} {ps : List At} (x : At) (H : Nat) (h : ARow W B v ps) (hB : B ≤ W.heap.size) (hl : ps.length ≤ 1000000) (hH : W.heap.size = H) :
    ∃ v' w2, (Builtin.append_ #[43, 43] 43 #[v, .slice (some ⟨H, 0, none⟩) 1 1]).run Tryd.prog (W.alloc (.cells (acs x).toArray 47)) = .ok v' w2 ∧ ARow w2 B v' (ps ++ [x]) ∧ Below B W w2 ∧ (∀ (k : Nat) (c : Array Value) (t : TypeId) (f : Nat × Nat), W.heap[k]? = some (Obj.cells c t f) → t ≠ 47 → w2.heap[k]? = some (Obj.cells c t f)) := by
  subst hH
  obtain ⟨i0, hi, hz0, hz1, hz2⟩ := info_parts info_at
  obtain ⟨gg, cap, w2, hr, ho, hg, hat, _⟩ := run_append_lies (P := Tryd.prog) (W.alloc (.cells (acs x).toArray 47)) 43 43 B 47 i0 _ 2 32 Tryd.underlying43 hi hz0 hz1 hz2 rfl (by decide) v ps.length (flA ps) (World.ownsRow.alloc h _) ⟨W.heap.size, 0, none⟩ 1 1 (acs x) (by simp)
    (fun j u hu => by rw [Go.WideShapes.add_plain, Nat.zero_add, World.cell?_alloc_at _ _ _ _ rfl]; simpa using hu) (acs_one x) (by decide) (by unfold maxLen; omega) (by omega) (by simp; omega) (W.heap.size + 1) (by simp)
  have hal := (Below.refl W.heap.size W).alloc (Nat.le_refl _) (.cells (acs x).toArray 47)
  refine ⟨_, w2, hr, ?_, ((Below.refl B W).alloc hB _).grown hg (by simp; omega) fun k hk' => (World.ownsRow.lt h k hk').1, fun k c t f hc ht => ?_⟩
  · unfold ARow
    rw [flA_snoc, List.length_append]
    exact ho
  · have hk := heap_lt hc
    rw [hg.block k (by simp; omega) (fun e => by
      obtain ⟨_, ⟨h0, _⟩ | ⟨g, cap, cur, hv, _, hh, _⟩⟩ := h
      · rw [h0] at e; simp [Value.ownBlock] at e
      · rw [hv] at e
        have : k = g := by simpa [Value.ownBlock] using e
        subst this
        rw [hc] at hh
        injection hh with hh
        injection hh with _ e _
        exact ht e)]
    rw [hal.block k hk]; exact hc
/- has one of these that name? -/
def nmd (ps : List At) (x : List UInt8) : Bool := ps.any fun p => p.1 == x
theorem str_beq (s t : List UInt8) : ((⟨s.toArray⟩ : ByteArray).toList == (⟨t.toArray⟩ : ByteArray).toList) = (s == t) := by
  rw [ByteArray.toList_eq, ByteArray.toList_eq]
set_option maxHeartbeats 1000000 in
theorem named_any (a : Option Addr) (cap : Nat) (ps : List At) (x : List UInt8) (w : World) (h : ALs w a ps) (hl : ps.length ≤ 1000000) :
    Calls Tryd.prog 76 #[.slice a ps.length cap, .string ⟨x.toArray⟩] w fun e w' => e = .returned (.bool (nmd ps x)) ∧ Below w.heap.size w w' := by
  have hl' : (ps.length : Int) ≤ 1000000 := by omega
  obtain ⟨R, hR⟩ : ∃ R, nmd ps x = R := ⟨_, rfl⟩
  rw [hR]
  have HR := hide hR
  have HA := hide h
  obtain ⟨X, hX⟩ : ∃ X : ByteArray, (⟨x.toArray⟩ : ByteArray) = X := ⟨_, rfl⟩
  rw [hX]
  have HX := hide hX
  obtain ⟨n, hn⟩ : ∃ n, ps.length = n := ⟨_, rfl⟩
  rw [hn] at hl' ⊢
  have HN := hide hn
  clear h hR hX hn hl
  go_enter Tryd.func76, Tryd.ntmps76
  go_wp2_with fail
  go_loopw [9] (fun vi wr => ∃ k : Nat, vi = .int .i64 k ∧ Hid (k ≤ n ∧ (ps.take k).any (fun p => p.1 == x) = false ∧ Below w.heap.size w wr)) (fun vi _ => n - (RowKit.intOf vi).toNat)
  case atStart => exact ⟨0, rfl, hide ⟨by omega, by simp, Below.refl _ _⟩⟩
  case round =>
    obtain ⟨k, rfl, HK⟩ := hrel
    obtain ⟨k1, k2, k3⟩ := HK.out
    clear HK
    by_cases hlt : k < n
    · have hlt' : (k : Int) < (n : Int) := by omega
      rcases HA.out.below k3 with h0 | ⟨b, off, rfl, hb, hcell⟩
      · have := HN.out; rw [h0] at this; simp at this; omega
      obtain ⟨c0, c1⟩ := hcell k (by have := HN.out; omega)
      have htk : ps.take (k + 1) = ps.take k ++ [ps.getD k ([], [])] := by
        rw [List.take_succ_eq_append_getElem (by have := HN.out; omega), List.getD_eq_getElem?_getD, List.getElem?_eq_getElem (by have := HN.out; omega)]; rfl
      have hmem : ps.getD k ([], []) ∈ ps := by rw [List.getD_eq_getElem?_getD, List.getElem?_eq_getElem (by have := HN.out; omega)]; exact List.getElem_mem _
      have hbq := str_beq (ps.getD k ([], [])).1 x
      rw [HX.out] at hbq
      have K3 := hide k3
      generalize ps.getD k ([], []) = p at *
      obtain ⟨p1, p2⟩ := p
      simp only at c0 c1 hbq
      have hz : (w.heap.size : Nat) ≤ wr.heap.size := k3.size
      cases hq : p1 == x
      · rw [hq] at hbq
        have K := hide (show (ps.take (k + 1)).any (fun p => p.1 == x) = false by rw [htk, List.any_append, k2]; simp [hq])
        generalize (⟨p1.toArray⟩ : ByteArray) = P1 at *
        generalize (⟨p2.toArray⟩ : ByteArray) = P2 at *
        have HB := hide (K3.out.alloc hz (.cells #[.string P1, .string P2] 47))
        clear k2 k3 htk hmem hq hcell
        go_wp2_with fail
        go_roundw
        case rel => exact ⟨k + 1, by go_num, hide ⟨by omega, K.out, HB.out⟩⟩
        case measure => simp [RowKit.intOf]; omega
      · rw [hq] at hbq
        obtain rfl : R = true := by
          rw [← HR.out]
          unfold nmd
          rw [List.any_eq_true]
          exact ⟨_, hmem, hq⟩
        generalize (⟨p1.toArray⟩ : ByteArray) = P1 at *
        generalize (⟨p2.toArray⟩ : ByteArray) = P2 at *
        have HB := hide (K3.out.alloc hz (.cells #[.string P1, .string P2] 47))
        clear k2 k3 htk hmem hq hcell
        go_wp2_with fail
        go_ret
        exact ⟨rfl, HB.out⟩
    · have hlt' : decide ((k : Int) < (n : Int)) = false := by simp; omega
      rw [List.take_of_length_le (by have := HN.out; omega)] at k2
      obtain rfl : R = false := by rw [← HR.out]; exact k2
      clear k2
      go_wp2_with fail
      go_ret
      exact ⟨rfl, k3⟩
end Go.Proofs.YtpmdekhjodhdmaaDoor.K17
