/-
  Joined: K17G, K17H, K17R.
-/
import Derived.Deep.AppendLies
import Derived.Deep.AppendSrc
import Derived.Test.YtpmdekhjodhdmaaDoorR13
namespace Go.Proofs.YtpmdekhjodhdmaaDoor.K17
open Go.RowKit Go.Proofs.YtpmdekhjodhdmaaDoor
open Go.Lib
set_option linter.unusedVariables false
set_option linter.unusedSimpArgs false
set_option maxRecDepth 8000
abbrev At := List UInt8 × List UInt8
abbrev acs (p : At) : List Value := [.string ⟨p.1.toArray⟩, .string ⟨p.2.toArray⟩]
def flA (ps : List At) : List Value := ps.flatMap acs
theorem flA_len (ps : List At) : (flA ps).length = ps.length * 2 := by
  induction ps with
  | nil => rfl
  | cons x r ih => unfold flA at *; rw [List.flatMap_cons, List.length_append, ih]; simp; omega
theorem flA_snoc (ps : List At) (x : At) : flA (ps ++ [x]) = flA ps ++ acs x := by unfold flA; rw [List.flatMap_append]; simp
theorem flA_cons (x : At) (r : List At) : flA (x :: r) = acs x ++ flA r := by unfold flA; rw [List.flatMap_cons]
theorem flA_at (ps : List At) : ∀ i j, i < ps.length → j < 2 → (flA ps)[i * 2 + j]? = (acs (ps.getD i ([], [])))[j]? := by
  induction ps with
  | nil => intro i j h; simp at h
  | cons x r ih =>
    intro i j h hj
    rw [flA_cons]
    cases i with
    | zero => rw [List.getElem?_append_left (by simp; omega)]; simp
    | succ i =>
      rw [List.getElem?_append_right (by simp; omega)]
      have := ih i j (by simpa using h) hj
      simp only [List.length_cons, List.length_nil] at *
      rw [show (i + 1) * 2 + j - (0 + 1 + 1) = i * 2 + j by omega, this]
      simp
theorem acs_one (c : At) : ∀ u ∈ acs c, u.oneCell' = true := by
  intro u hu
  simp only [acs, List.mem_cons, List.not_mem_nil, or_false] at hu
  rcases hu with rfl | rfl <;> rfl
def ARow (w : World) (B : Nat) (v : Value) (ps : List At) : Prop := w.ownsRow B 47 2 v ps.length (flA ps)
theorem ARow.nil (w : World) (B : Nat) : ARow w B (.slice none 0 0) [] := World.ownsRow_nil _ _ _ _
theorem ARow.but {b : Nat} {w w' : World} {B : Nat} {v : Value} {ps : List At} (h : ARow w B v ps) (hb : But b w w') (hB : b < B) : ARow w' B v ps := by
  obtain ⟨h1, h2 | ⟨g, cap, cur, hv, hg, hh, hr⟩⟩ := h
  · exact ⟨h1, Or.inl h2⟩
  · exact ⟨h1, Or.inr ⟨g, cap, cur, hv, hg, by rw [hb.block g (heap_lt hh) (by omega)]; exact hh, hr⟩⟩
theorem ARow.below {w w' : World} {B : Nat} {v : Value} {ps : List At} (h : ARow w B v ps) (hb : Below w.heap.size w w') : ARow w' B v ps := ownsRow_kc h (KC.of_below hb)
theorem ARow.set {w : World} {B : Nat} {v : Value} {ps : List At} (h : ARow w B v ps) {c : Nat} {cs : Array Value} {t : TypeId} (hc : Blk w c cs t) (ht : t ≠ 47) (j : Nat) (u : Value) : ARow (w.setCell ⟨c, j, none⟩ u) B v ps := by
  obtain ⟨h1, h2 | ⟨g, cap, cur, hv, hg, hh, hr⟩⟩ := h
  · exact ⟨h1, Or.inl h2⟩
  · refine ⟨h1, Or.inr ⟨g, cap, cur, hv, hg, ?_, hr⟩⟩
    rw [Below.heap_setCell _ _ _ _ (show g ≠ c by
      rintro rfl
      unfold Blk at hc
      rw [hc] at hh
      injection hh with hh
      injection hh with _ e _
      exact ht e)]
    exact hh
theorem info_at : (Tryd.prog.info? 47).map (fun i => (i.zero, i.size, i.bytes)) = some (some (.agg #[.string ⟨#[]⟩, .string ⟨#[]⟩]), 2, 32) := by kernel_rfl
def ALs (w : World) (a : Option Addr) (ps : List At) : Prop :=
  ps = [] ∨ ∃ b off, a = some ⟨b, off, none⟩ ∧ b < w.heap.size ∧ ∀ i, i < ps.length → w.cell? ⟨b, off + i * 2, none⟩ = some (.string ⟨(ps.getD i ([], [])).1.toArray⟩) ∧ w.cell? ⟨b, off + i * 2 + 1, none⟩ = some (.string ⟨(ps.getD i ([], [])).2.toArray⟩)
theorem ALs.below {w w' : World} {a : Option Addr} {ps : List At} (h : ALs w a ps) (hb : Below w.heap.size w w') : ALs w' a ps := by
  rcases h with h | ⟨b, off, h1, h2, h3⟩
  · exact Or.inl h
  · refine Or.inr ⟨b, off, h1, Nat.lt_of_lt_of_le h2 hb.size, fun i hi => ?_⟩
    rw [hb.cell (p := ⟨b, off + i * 2, none⟩) h2, hb.cell (p := ⟨b, off + i * 2 + 1, none⟩) h2]
    exact h3 i hi
theorem ARow.lst {w : World} {B : Nat} {v : Value} {ps : List At} (h : ARow w B v ps) : ∃ a cap, v = .slice a ps.length cap ∧ ALs w a ps ∧ ps.length ≤ cap ∧ cap ≤ 9223372036854775807 := by
  have h' := h
  obtain ⟨_, ⟨h0, hz⟩ | ⟨g, cap, cur, hv, hg, hh, hc, hm, _⟩⟩ := h'
  · obtain rfl : ps = [] := List.eq_nil_of_length_eq_zero hz
    exact ⟨none, 0, h0, Or.inl rfl, by simp, by omega⟩
  · refine ⟨_, cap, hv, ?_, hc, by unfold maxLen at hm; exact hm⟩
    rw [hv] at h
    refine Or.inr ⟨g, 0, rfl, heap_lt hh, fun i hi => ?_⟩
    have hcell : ∀ j, j < 2 → w.cell? ⟨g, i * 2 + j, none⟩ = (acs (ps.getD i ([], [])))[j]? := fun j hj => by
      rw [World.ownsRow.cellAt h (i * 2 + j) (by omega), flA_at ps i j hi hj]
    rw [Nat.zero_add]
    exact ⟨hcell 0 (by omega), hcell 1 (by omega)⟩
theorem app_at {W : World} {B : Nat} {v : Value} {ps : List At} (x : At) (H : Nat) (h : ARow W B v ps) (hB : B ≤ W.heap.size) (hl : ps.length ≤ 1000000) (hH : W.heap.size = H) :
    ∃ v' w2, (Builtin.append_ #[43, 43] 43 #[v, .slice (some ⟨H, 0, none⟩) 1 1]).run Tryd.prog (W.alloc (.cells (acs x).toArray 47)) = .ok v' w2 ∧ ARow w2 B v' (ps ++ [x]) ∧ Below B W w2 ∧ (∀ (k : Nat) (c : Array Value) (t : TypeId) (f : Nat × Nat), W.heap[k]? = some (Obj.cells c t f) → t ≠ 47 → w2.heap[k]? = some (Obj.cells c t f)) := by
  subst hH
  obtain ⟨i0, hi, hz0, hz1, hz2⟩ := info_parts info_at
  obtain ⟨gg, cap, w2, hr, ho, hg, hat, _⟩ := run_append_lies (P := Tryd.prog) (W.alloc (.cells (acs x).toArray 47)) 43 43 B 47 i0 _ 2 32 Tryd.underlying43 hi hz0 hz1 hz2 rfl (by decide) v ps.length (flA ps) (World.ownsRow.alloc h _) ⟨W.heap.size, 0, none⟩ 1 1 (acs x) (by simp)
    (fun j u hu => by rw [Go.WideShapes.add_plain, Nat.zero_add, World.cell?_alloc_at _ _ _ _ rfl]; simpa using hu) (acs_one x) (by decide) (by unfold maxLen; omega) (by omega) (by simp; omega) (W.heap.size + 1) (by simp)
  have hal := (Below.refl W.heap.size W).alloc (Nat.le_refl _) (.cells (acs x).toArray 47)
  refine ⟨_, w2, hr, ?_, ((Below.refl B W).alloc hB _).grown hg (by simp; omega) fun k hk' => (World.ownsRow.lt h k hk').1, fun k c t f hc ht => ?_⟩
  · unfold ARow
    rw [flA_snoc, List.length_append]
    exact ho
  · have hk := heap_lt hc
    rw [hg.block k (by simp; omega) (fun e => by
      obtain ⟨_, ⟨h0, _⟩ | ⟨g, cap, cur, hv, _, hh, _⟩⟩ := h
      · rw [h0] at e; simp [Value.ownBlock] at e
      · rw [hv] at e
        have : k = g := by simpa [Value.ownBlock] using e
        subst this
        rw [hc] at hh
        injection hh with hh
        injection hh with _ e _
        exact ht e)]
    rw [hal.block k hk]; exact hc
def nmd (ps : List At) (x : List UInt8) : Bool := ps.any fun p => p.1 == x
theorem str_beq (s t : List UInt8) : ((⟨s.toArray⟩ : ByteArray).toList == (⟨t.toArray⟩ : ByteArray).toList) = (s == t) := by
  rw [ByteArray.toList_eq, ByteArray.toList_eq]
set_option maxHeartbeats 1000000 in
theorem named_any (a : Option Addr) (cap : Nat) (ps : List At) (x : List UInt8) (w : World) (h : ALs w a ps) (hl : ps.length ≤ 1000000) :
    Calls Tryd.prog 76 #[.slice a ps.length cap, .string ⟨x.toArray⟩] w fun e w' => e = .returned (.bool (nmd ps x)) ∧ Below w.heap.size w w' := by
  have hl' : (ps.length : Int) ≤ 1000000 := by omega
  obtain ⟨R, hR⟩ : ∃ R, nmd ps x = R := ⟨_, rfl⟩
  rw [hR]
  have HR := hide hR
  have HA := hide h
  obtain ⟨X, hX⟩ : ∃ X : ByteArray, (⟨x.toArray⟩ : ByteArray) = X := ⟨_, rfl⟩
  rw [hX]
  have HX := hide hX
  obtain ⟨n, hn⟩ : ∃ n, ps.length = n := ⟨_, rfl⟩
  rw [hn] at hl' ⊢
  have HN := hide hn
  clear h hR hX hn hl
  go_enter Tryd.func76, Tryd.ntmps76
  go_wp2_with fail
  go_loopw [9] (fun vi wr => ∃ k : Nat, vi = .int .i64 k ∧ Hid (k ≤ n ∧ (ps.take k).any (fun p => p.1 == x) = false ∧ Below w.heap.size w wr)) (fun vi _ => n - (RowKit.intOf vi).toNat)
  case atStart => exact ⟨0, rfl, hide ⟨by omega, by simp, Below.refl _ _⟩⟩
  case round =>
    obtain ⟨k, rfl, HK⟩ := hrel
    obtain ⟨k1, k2, k3⟩ := HK.out
    clear HK
    by_cases hlt : k < n
    · have hlt' : (k : Int) < (n : Int) := by omega
      rcases HA.out.below k3 with h0 | ⟨b, off, rfl, hb, hcell⟩
      · have := HN.out; rw [h0] at this; simp at this; omega
      obtain ⟨c0, c1⟩ := hcell k (by have := HN.out; omega)
      have htk : ps.take (k + 1) = ps.take k ++ [ps.getD k ([], [])] := by
        rw [List.take_succ_eq_append_getElem (by have := HN.out; omega), List.getD_eq_getElem?_getD, List.getElem?_eq_getElem (by have := HN.out; omega)]; rfl
      have hmem : ps.getD k ([], []) ∈ ps := by rw [List.getD_eq_getElem?_getD, List.getElem?_eq_getElem (by have := HN.out; omega)]; exact List.getElem_mem _
      have hbq := str_beq (ps.getD k ([], [])).1 x
      rw [HX.out] at hbq
      have K3 := hide k3
      generalize ps.getD k ([], []) = p at *
      obtain ⟨p1, p2⟩ := p
      simp only at c0 c1 hbq
      have hz : (w.heap.size : Nat) ≤ wr.heap.size := k3.size
      cases hq : p1 == x
      · rw [hq] at hbq
        have K := hide (show (ps.take (k + 1)).any (fun p => p.1 == x) = false by rw [htk, List.any_append, k2]; simp [hq])
        generalize (⟨p1.toArray⟩ : ByteArray) = P1 at *
        generalize (⟨p2.toArray⟩ : ByteArray) = P2 at *
        have HB := hide (K3.out.alloc hz (.cells #[.string P1, .string P2] 47))
        clear k2 k3 htk hmem hq hcell
        go_wp2_with fail
        go_roundw
        case rel => exact ⟨k + 1, by go_num, hide ⟨by omega, K.out, HB.out⟩⟩
        case measure => simp [RowKit.intOf]; omega
      · rw [hq] at hbq
        obtain rfl : R = true := by
          rw [← HR.out]
          unfold nmd
          rw [List.any_eq_true]
          exact ⟨_, hmem, hq⟩
        generalize (⟨p1.toArray⟩ : ByteArray) = P1 at *
        generalize (⟨p2.toArray⟩ : ByteArray) = P2 at *
        have HB := hide (K3.out.alloc hz (.cells #[.string P1, .string P2] 47))
        clear k2 k3 htk hmem hq hcell
        go_wp2_with fail
        go_ret
        exact ⟨rfl, HB.out⟩
    · have hlt' : decide ((k : Int) < (n : Int)) = false := by simp; omega
      rw [List.take_of_length_le (by have := HN.out; omega)] at k2
      obtain rfl : R = false := by rw [← HR.out]; exact k2
      clear k2
      go_wp2_with fail
      go_ret
      exact ⟨rfl, k3⟩
theorem va_len {l t r : List UInt8} (h : va l = some (t, r)) : r.length ≤ l.length ∧ (Vt l → Vt r) := by
  unfold va at h
  split at h
  · rename_i hm
    split at h
    · simp at h
    · cases hp : pl (upto 34 l) with
      | error p => rw [hp] at h; simp at h
      | ok u =>
        rw [hp] at h
        simp only [Option.some.injEq, Prod.mk.injEq] at h
        rw [← h.2]
        exact ⟨by rw [List.length_drop]; omega, fun hv => (vt_upto (by decide) hv hm).2⟩
  · simp at h
theorem att_len {l x t r : List UInt8} (h : att l = some (x, t, r)) : r.length < l.length ∧ (Vt l → Vt r) := by
  unfold att at h
  cases hn : nm l with
  | none => rw [hn] at h; simp at h
  | some p =>
    obtain ⟨y, q⟩ := p
    rw [hn] at h
    simp only at h
    split at h
    · rename_i h61
      split at h
      · rename_i h34
        cases hv : va (tp [34] (bk (tp [61] (bk q)))) with
        | none => rw [hv] at h; simp at h
        | some u =>
          obtain ⟨u1, u2⟩ := u
          rw [hv] at h
          simp only [Option.some.injEq, Prod.mk.injEq] at h
          obtain ⟨rfl, rfl, rfl⟩ := h
          have h1 := (nm_len hn).1
          have := bk_le q; have := tp_len [61] (bk q); have := bk_le (tp [61] (bk q)); have := tp_len [34] (bk (tp [61] (bk q)))
          have h2 := va_len hv
          exact ⟨by omega, fun hvt => h2.2 (vt_tp1 (by decide) (vt_bk (vt_tp1 (by decide) (vt_bk (vt_nm hvt hn)) h61)) h34)⟩
      · simp at h
    · simp at h
def opF : Nat → List UInt8 → List At → Option (Int × List At × List UInt8)
  | 0, _, _ => none
  | f + 1, l, ps =>
    if hp [62] (bk l) then some (1, ps, tp [62] (bk l))
    else if hp [47, 62] (bk l) then some (3, ps, tp [47, 62] (bk l))
    else if (bk l).length < l.length ∧ ps.length < 16 then (match att (bk l) with
      | none => none
      | some (x, t, r) => if nmd ps x then none else opF f r (ps ++ [(x, t)]))
    else none
def op (l : List UInt8) : Option (Int × List UInt8 × List At × List UInt8) := match nm l with
  | none => none
  | some (x, r) => match opF (r.length + 1) r [] with
    | none => none
    | some (k, ps, q) => some (k, x, ps, q)
def OP (l : List UInt8) (ps : List At) (R : Option (Int × List At × List UInt8)) : Prop := ∃ f, l.length < f ∧ opF f l ps = R
theorem OP.unf {l : List UInt8} {ps : List At} {R : Option (Int × List At × List UInt8)} (h : OP l ps R) : ∃ f, l.length ≤ f ∧ opF (f + 1) l ps = R := by
  obtain ⟨f, h1, h2⟩ := h
  obtain ⟨g, rfl⟩ : ∃ g, f = g + 1 := ⟨f - 1, by omega⟩
  exact ⟨g, by omega, h2⟩
theorem OP.a {l : List UInt8} {ps : List At} {R : Option (Int × List At × List UInt8)} (h : OP l ps R) (h1 : hp [62] (bk l) = true) : R = some (1, ps, tp [62] (bk l)) := by
  obtain ⟨f, _, h⟩ := h.unf; rw [opF, if_pos h1] at h; exact h.symm
theorem OP.b {l : List UInt8} {ps : List At} {R : Option (Int × List At × List UInt8)} (h : OP l ps R) (h1 : hp [62] (bk l) = false) (h2 : hp [47, 62] (bk l) = true) : R = some (3, ps, tp [47, 62] (bk l)) := by
  obtain ⟨f, _, h⟩ := h.unf; rw [opF, if_neg (by rw [h1]; simp), if_pos h2] at h; exact h.symm
theorem OP.c {l : List UInt8} {ps : List At} {R : Option (Int × List At × List UInt8)} (h : OP l ps R) (h1 : hp [62] (bk l) = false) (h2 : hp [47, 62] (bk l) = false) (h3 : ¬ ((bk l).length < l.length ∧ ps.length < 16)) : R = none := by
  obtain ⟨f, _, h⟩ := h.unf; rw [opF, if_neg (by rw [h1]; simp), if_neg (by rw [h2]; simp), if_neg h3] at h; exact h.symm
theorem OP.d {l : List UInt8} {ps : List At} {R : Option (Int × List At × List UInt8)} (h : OP l ps R) (h1 : hp [62] (bk l) = false) (h2 : hp [47, 62] (bk l) = false) (h3 : (bk l).length < l.length ∧ ps.length < 16) (h4 : att (bk l) = none) : R = none := by
  obtain ⟨f, _, h⟩ := h.unf; rw [opF, if_neg (by rw [h1]; simp), if_neg (by rw [h2]; simp), if_pos h3, h4] at h; exact h.symm
theorem OP.e {l x t r : List UInt8} {ps : List At} {R : Option (Int × List At × List UInt8)} (h : OP l ps R) (h1 : hp [62] (bk l) = false) (h2 : hp [47, 62] (bk l) = false) (h3 : (bk l).length < l.length ∧ ps.length < 16) (h4 : att (bk l) = some (x, t, r)) (h5 : nmd ps x = true) : R = none := by
  obtain ⟨f, _, h⟩ := h.unf; rw [opF, if_neg (by rw [h1]; simp), if_neg (by rw [h2]; simp), if_pos h3, h4] at h
  simp only [h5, if_true] at h; exact h.symm
theorem OP.f {l x t r : List UInt8} {ps : List At} {R : Option (Int × List At × List UInt8)} (h : OP l ps R) (h1 : hp [62] (bk l) = false) (h2 : hp [47, 62] (bk l) = false) (h3 : (bk l).length < l.length ∧ ps.length < 16) (h4 : att (bk l) = some (x, t, r)) (h5 : nmd ps x = false) : OP r (ps ++ [(x, t)]) R := by
  obtain ⟨f, hf, h⟩ := h.unf; rw [opF, if_neg (by rw [h1]; simp), if_neg (by rw [h2]; simp), if_pos h3, h4] at h
  simp only [h5, Bool.false_eq_true, if_false] at h
  exact ⟨f, by have := (att_len h4).1; omega, h⟩
def rdL (b : Nat) (w : World) : Nat := match w.cell? ⟨b, 0, none⟩ with
  | some (.string s) => s.size
  | _ => 0
theorem RA.rdL {w : World} {b : Nat} {l : List UInt8} (h : RA w b l) : rdL b w = l.length := by
  unfold K17.rdL; rw [h.c0]; exact size_m l
structure OS (b : Nat) (w : World) (tb : Nat) (x : ByteArray) (v : Value) (ps : List At) (cur : World) (l : List UInt8) : Prop where
  ra : RA cur b l
  bu : But b w cur
  z : Blk cur w.heap.size zt 45
  t : Blk cur tb #[.int .i64 0, .string x, .string ⟨#[]⟩, v, .int .i64 0] 45
  ne : w.heap.size < tb
  mx : MX cur
  rw' : ARow cur w.heap.size v ps
theorem OS.but {b : Nat} {w : World} {tb : Nat} {x : ByteArray} {v : Value} {ps : List At} {cur cur' : World} {l l' : List UInt8} (h : OS b w tb x v ps cur l) (hlt : b < w.heap.size) (hb : But b cur cur') (hr : RA cur' b l') (hg : lays145_ren.g 1 ≠ b) : OS b w tb x v ps cur' l' :=
  ⟨hr, h.bu.trans hb, h.z.but hb (by omega), h.t.but hb (by have := h.ne; omega), h.ne, h.mx.but hb hg, h.rw'.but hb hlt⟩
theorem OS.below {b : Nat} {w : World} {tb : Nat} {x : ByteArray} {v : Value} {ps : List At} {cur cur' : World} {l : List UInt8} (h : OS b w tb x v ps cur l) (hb : Below cur.heap.size cur cur') : OS b w tb x v ps cur' l :=
  ⟨h.ra.below hb, h.bu.trans (But.of_below hb), h.z.below hb, h.t.below hb, h.ne, h.mx.below hb, h.rw'.below hb⟩
theorem take_os {b : Nat} {w : World} {tb : Nat} {x : ByteArray} {v : Value} {ps : List At} {cur : World} {l p : List UInt8} {t : Bool} (S : Hid (OS b w tb x v ps cur l)) (ht : hp p l = t) (hlt : b < w.heap.size) (hg : lays145_ren.g 1 ≠ b) :
    Calls Tryd.prog 58 #[.pointer (some ⟨b, 0, none⟩), .string ⟨p.toArray⟩] cur fun e w' => e = .returned (.bool t) ∧ OS b w tb x v ps w' (tp p l) :=
  (take_any b l p cur S.out.ra).mono fun e w' ⟨h1, h2⟩ => ⟨by rw [h1, ht], by rw [h2]; exact S.out.but hlt (But.setCell _ _ _ _) (S.out.ra.set _) hg⟩
theorem take_osf {b : Nat} {w : World} {tb : Nat} {x : ByteArray} {v : Value} {ps : List At} {cur : World} {l p : List UInt8} (S : Hid (OS b w tb x v ps cur l)) (ht : hp p l = false) (hlt : b < w.heap.size) (hg : lays145_ren.g 1 ≠ b) :
    Calls Tryd.prog 58 #[.pointer (some ⟨b, 0, none⟩), .string ⟨p.toArray⟩] cur fun e w' => e = .returned (.bool false) ∧ OS b w tb x v ps w' l :=
  (take_os S ht hlt hg).mono fun e w' ⟨h1, h2⟩ => ⟨h1, by rw [tp_f ht] at h2; exact h2⟩
theorem blanks_os {b : Nat} {w : World} {tb : Nat} {x : ByteArray} {v : Value} {ps : List At} {cur : World} {l : List UInt8} {D : Bool} (S : Hid (OS b w tb x v ps cur l)) (hlt : b < w.heap.size) (hg : lays145_ren.g 1 ≠ b) (hl : l.length ≤ 1048576) (hD : decide ((bk l).length < l.length) = D) :
    Calls Tryd.prog 74 #[.pointer (some ⟨b, 0, none⟩)] cur fun e w' => e = .returned (.bool D) ∧ OS b w tb x v ps w' (bk l) :=
  (blanks_any b l cur S.out.ra hl).mono fun e w' ⟨h1, h2, h3⟩ => ⟨by rw [h1, hD], S.out.but hlt h3 h2 hg⟩
theorem att_no {b : Nat} {w : World} {tb : Nat} {x : ByteArray} {v : Value} {ps : List At} {cur : World} {l : List UInt8} (S : Hid (OS b w tb x v ps cur l)) (hg : lays145_ren.g 1 ≠ b) (hl : l.length ≤ 1048576) (hv : Vt l) (hA : att l = none) :
    Calls Tryd.prog 75 #[.pointer (some ⟨b, 0, none⟩)] cur fun e w' => e = thrown ∧ But b w w' := by
  have C := attribute_any b l cur S.out.ra S.out.mx hl hv hg
  rw [hA] at C
  exact C.mono fun e w' h => ⟨h.1, S.out.bu.trans h.2⟩
theorem att_yes {b : Nat} {w : World} {tb : Nat} {x : ByteArray} {v : Value} {ps : List At} {cur : World} {l y t r : List UInt8} (S : Hid (OS b w tb x v ps cur l)) (hlt : b < w.heap.size) (hg : lays145_ren.g 1 ≠ b) (hl : l.length ≤ 1048576) (hv : Vt l) (hA : att l = some (y, t, r)) :
    Calls Tryd.prog 75 #[.pointer (some ⟨b, 0, none⟩)] cur fun e w' => e = .returned (.agg #[.string ⟨y.toArray⟩, .string ⟨t.toArray⟩]) ∧ OS b w tb x v ps (w'.alloc (.cells #[.string ⟨y.toArray⟩, .string ⟨t.toArray⟩] 47)) r ∧ Blk (w'.alloc (.cells #[.string ⟨y.toArray⟩, .string ⟨t.toArray⟩] 47)) w'.heap.size #[.string ⟨y.toArray⟩, .string ⟨t.toArray⟩] 47 := by
  have C := attribute_any b l cur S.out.ra S.out.mx hl hv hg
  rw [hA] at C
  exact C.mono fun e w' h => ⟨h.1, (S.out.but hlt h.2.2 h.2.1 hg).below ((Below.refl _ _).alloc (Nat.le_refl _) _), Blk.new _ _ _⟩
theorem named_os {b : Nat} {w : World} {tb : Nat} {x : ByteArray} {a : Option Addr} {cap n : Nat} {ps : List At} {cur : World} {l y : List UInt8} {N : Bool} (S : Hid (OS b w tb x (.slice a n cap) ps cur l)) (hn : ps.length = n) (hl : ps.length ≤ 1000000) (hN : nmd ps y = N) :
    Calls Tryd.prog 76 #[.slice a n cap, .string ⟨y.toArray⟩] cur fun e w' => e = .returned (.bool N) ∧ OS b w tb x (.slice a n cap) ps w' l ∧ Below cur.heap.size cur w' := by
  subst hn
  obtain ⟨a', cap', he, hA, _⟩ := S.out.rw'.lst
  injection he with he1 _ he3
  subst he1
  exact (named_any a cap ps y cur hA hl).mono fun e w' ⟨h1, h2⟩ => ⟨by rw [h1, hN], S.out.below h2, h2⟩
def OpR (b : Nat) (w : World) (R : Option (Int × List UInt8 × List At × List UInt8)) (e : Ending) (w' : World) : Prop := match R with
  | none => e = thrown ∧ But b w w'
  | some (k, x, ps, r) => ∃ v, e = .returned (tkv k ⟨x.toArray⟩ ⟨#[]⟩ v 0) ∧ ARow w' w.heap.size v ps ∧ RA w' b r ∧ But b w w'
def tagV (l : List UInt8) : Option (Int × List UInt8 × List At × List UInt8) :=
  if hp [60] l then (if hp [47] (tp [60] l) then (match clo (tp [47] (tp [60] l)) with
    | none => none
    | some (x, r) => some (2, x, [], r)) else op (tp [60] l)) else none
structure Tk where
  k : Int
  x : List UInt8
  t : List UInt8
  ps : List At
  a : Nat
deriving DecidableEq
theorem clo_len {l x r : List UInt8} (h : clo l = some (x, r)) : r.length < l.length ∧ (Vt l → Vt r) := by
  unfold clo at h
  cases hn : nm l with
  | none => rw [hn] at h; simp at h
  | some p =>
    obtain ⟨y, q⟩ := p
    rw [hn] at h
    simp only at h
    split at h
    · rename_i h62
      simp only [Option.some.injEq, Prod.mk.injEq] at h
      obtain ⟨rfl, rfl⟩ := h
      have h1 := (nm_len hn).1
      have := bk_le q; have := tp_len [62] (bk q)
      exact ⟨by omega, fun hv => vt_tp1 (by decide) (vt_bk (vt_nm hv hn)) h62⟩
    · simp at h
theorem opF_len : ∀ (f : Nat) (l : List UInt8) (ps : List At) {k : Int} {qs : List At} {r : List UInt8}, opF f l ps = some (k, qs, r) → r.length ≤ l.length ∧ (Vt l → Vt r) ∧ qs.length ≤ max ps.length 16 ∧ (k = 1 ∨ k = 3)
  | 0, l, ps, k, qs, r, h => by simp [opF] at h
  | f + 1, l, ps, k, qs, r, h => by
    rw [opF] at h
    have hb := bk_le l
    split at h
    · rename_i h62
      simp only [Option.some.injEq, Prod.mk.injEq] at h
      obtain ⟨rfl, rfl, rfl⟩ := h
      have := tp_len [62] (bk l)
      exact ⟨by omega, fun hv => vt_tp1 (by decide) (vt_bk hv) h62, by omega, Or.inl rfl⟩
    · split at h
      · rename_i h62 h47
        simp only [Option.some.injEq, Prod.mk.injEq] at h
        obtain ⟨rfl, rfl, rfl⟩ := h
        have := tp_len [47, 62] (bk l)
        refine ⟨by omega, fun hv => ?_, by omega, Or.inr rfl⟩
        have hv2 := vt_bk hv
        obtain ⟨q, hq, hq2⟩ := hp_cons h47
        obtain ⟨q2, hq3, _⟩ := hp_cons hq2
        unfold tp
        rw [if_pos h47, hq, hq3]
        rw [hq, hq3] at hv2
        exact ((hv2.low (by decide)).1.low (by decide)).1
      · split at h
        · rename_i h62 h47 hc
          cases ha : att (bk l) with
          | none => rw [ha] at h; simp at h
          | some p =>
            obtain ⟨x, t, z⟩ := p
            rw [ha] at h
            simp only at h
            split at h
            · simp at h
            · have h1 := att_len ha
              obtain ⟨g1, g2, g3, g4⟩ := opF_len f z _ h
              rw [List.length_append] at g3
              simp only [List.length_singleton] at g3
              exact ⟨by omega, fun hv => g2 (h1.2 (vt_bk hv)), by omega, g4⟩
        · simp at h
theorem op_len {l x : List UInt8} {k : Int} {qs : List At} {r : List UInt8} (h : op l = some (k, x, qs, r)) : r.length < l.length ∧ (Vt l → Vt r) ∧ qs.length ≤ 16 ∧ (k = 1 ∨ k = 3) := by
  unfold op at h
  cases hn : nm l with
  | none => rw [hn] at h; simp at h
  | some p =>
    obtain ⟨y, q⟩ := p
    rw [hn] at h
    simp only at h
    cases ho : opF (q.length + 1) q [] with
    | none => rw [ho] at h; simp at h
    | some u =>
      obtain ⟨k', ps', r'⟩ := u
      rw [ho] at h
      simp only [Option.some.injEq, Prod.mk.injEq] at h
      obtain ⟨rfl, rfl, rfl, rfl⟩ := h
      have h1 := (nm_len hn).1
      obtain ⟨g1, g2, g3, g4⟩ := opF_len _ _ _ ho
      exact ⟨by omega, fun hv => g2 (vt_nm hv hn), by simpa using g3, g4⟩
theorem tagV_len {l x : List UInt8} {k : Int} {qs : List At} {r : List UInt8} (h : tagV l = some (k, x, qs, r)) : r.length < l.length ∧ (Vt l → Vt r) ∧ qs.length ≤ 16 ∧ (k = 1 ∨ k = 2 ∨ k = 3) := by
  unfold tagV at h
  split at h
  · rename_i h60
    have t0 := tp_one h60
    have l0 := congrArg List.length t0
    rw [List.length_cons] at l0
    split at h
    · rename_i h47
      cases hc : clo (tp [47] (tp [60] l)) with
      | none => rw [hc] at h; simp at h
      | some p =>
        obtain ⟨y, q⟩ := p
        rw [hc] at h
        simp only [Option.some.injEq, Prod.mk.injEq] at h
        obtain ⟨rfl, rfl, rfl, rfl⟩ := h
        have h1 := clo_len hc
        have := tp_len [47] (tp [60] l)
        exact ⟨by omega, fun hv => h1.2 (vt_tp1 (by decide) (vt_tp1 (by decide) hv h60) h47), by simp, by simp⟩
    · obtain ⟨g1, g2, g3, g4⟩ := op_len h
      exact ⟨by omega, fun hv => g2 (vt_tp1 (by decide) hv h60), g3, by omega⟩
  · simp at h
theorem bk_suf (l : List UInt8) : bk l <:+ l := List.dropWhile_suffix _
theorem tp_suf (p l : List UInt8) : tp p l <:+ l := by
  unfold tp; split
  · exact List.drop_suffix _ _
  · exact List.suffix_rfl
theorem nm_suf {l x r : List UInt8} (h : nm l = some (x, r)) : r <:+ l := by
  rw [(nm_len h).2]; exact List.suffix_append _ _
theorem va_suf {l t r : List UInt8} (h : va l = some (t, r)) : r <:+ l := by
  unfold va at h
  split at h
  · split at h
    · simp at h
    · cases hp : pl (upto 34 l) with
      | error p => rw [hp] at h; simp at h
      | ok u =>
        rw [hp] at h
        simp only [Option.some.injEq, Prod.mk.injEq] at h
        rw [← h.2]
        exact List.drop_suffix _ _
  · simp at h
theorem att_suf {l x t r : List UInt8} (h : att l = some (x, t, r)) : r <:+ l := by
  unfold att at h
  cases hn : nm l with
  | none => rw [hn] at h; simp at h
  | some p =>
    obtain ⟨y, q⟩ := p
    rw [hn] at h
    simp only at h
    split at h
    · split at h
      · cases hv : va (tp [34] (bk (tp [61] (bk q)))) with
        | none => rw [hv] at h; simp at h
        | some u =>
          obtain ⟨u1, u2⟩ := u
          rw [hv] at h
          simp only [Option.some.injEq, Prod.mk.injEq] at h
          obtain ⟨rfl, rfl, rfl⟩ := h
          exact (((((va_suf hv).trans (tp_suf _ _)).trans (bk_suf _)).trans (tp_suf _ _)).trans (bk_suf _)).trans (nm_suf hn)
      · simp at h
    · simp at h
theorem clo_suf {l x r : List UInt8} (h : clo l = some (x, r)) : r <:+ l := by
  unfold clo at h
  cases hn : nm l with
  | none => rw [hn] at h; simp at h
  | some p =>
    obtain ⟨y, q⟩ := p
    rw [hn] at h
    simp only at h
    split at h
    · simp only [Option.some.injEq, Prod.mk.injEq] at h
      obtain ⟨rfl, rfl⟩ := h
      exact ((tp_suf _ _).trans (bk_suf _)).trans (nm_suf hn)
    · simp at h
theorem opF_suf : ∀ (f : Nat) (l : List UInt8) (ps : List At) {k : Int} {qs : List At} {r : List UInt8}, opF f l ps = some (k, qs, r) → r <:+ l
  | 0, l, ps, k, qs, r, h => by simp [opF] at h
  | f + 1, l, ps, k, qs, r, h => by
    rw [opF] at h
    split at h
    · simp only [Option.some.injEq, Prod.mk.injEq] at h
      obtain ⟨rfl, rfl, rfl⟩ := h
      exact (tp_suf _ _).trans (bk_suf _)
    · split at h
      · simp only [Option.some.injEq, Prod.mk.injEq] at h
        obtain ⟨rfl, rfl, rfl⟩ := h
        exact (tp_suf _ _).trans (bk_suf _)
      · split at h
        · cases ha : att (bk l) with
          | none => rw [ha] at h; simp at h
          | some p =>
            obtain ⟨x, t, z⟩ := p
            rw [ha] at h
            simp only at h
            split at h
            · simp at h
            · exact ((opF_suf f z _ h).trans (att_suf ha)).trans (bk_suf _)
        · simp at h
theorem op_suf {l x : List UInt8} {k : Int} {qs : List At} {r : List UInt8} (h : op l = some (k, x, qs, r)) : r <:+ l := by
  unfold op at h
  cases hn : nm l with
  | none => rw [hn] at h; simp at h
  | some p =>
    obtain ⟨y, q⟩ := p
    rw [hn] at h
    simp only at h
    cases ho : opF (q.length + 1) q [] with
    | none => rw [ho] at h; simp at h
    | some u =>
      obtain ⟨k', ps', r'⟩ := u
      rw [ho] at h
      simp only [Option.some.injEq, Prod.mk.injEq] at h
      obtain ⟨rfl, rfl, rfl, rfl⟩ := h
      exact (opF_suf _ _ _ ho).trans (nm_suf hn)
theorem tagV_suf {l x : List UInt8} {k : Int} {qs : List At} {r : List UInt8} (h : tagV l = some (k, x, qs, r)) : r <:+ l := by
  unfold tagV at h
  split at h
  · split at h
    · cases hc : clo (tp [47] (tp [60] l)) with
      | none => rw [hc] at h; simp at h
      | some p =>
        obtain ⟨y, q⟩ := p
        rw [hc] at h
        simp only [Option.some.injEq, Prod.mk.injEq] at h
        obtain ⟨rfl, rfl, rfl, rfl⟩ := h
        exact ((clo_suf hc).trans (tp_suf _ _)).trans (tp_suf _ _)
    · exact (op_suf h).trans (tp_suf _ _)
  · simp at h
theorem suf_drop {r l : List UInt8} (h : r <:+ l) : l.drop (l.length - r.length) = r := (List.suffix_iff_eq_drop.1 h).symm
def tokV (l : List UInt8) : Except Nat (Tk × Nat) :=
  if l.getD 0 0 = 60 then (match tagV l with
    | none => .error 0
    | some (k, x, ps, r) => .ok (⟨k, x, [], ps, 0⟩, l.length - r.length))
  else (match pl (upto 60 l) with
    | .error p => .error p
    | .ok t => .ok (⟨4, [], t, [], 0⟩, (upto 60 l).length))
theorem upto_pos {b : UInt8} {l : List UInt8} (hl : l ≠ []) (h : l.getD 0 0 ≠ b) : 1 ≤ (upto b l).length := by
  cases l with
  | nil => exact absurd rfl hl
  | cons c r =>
    have hc : c ≠ b := by simpa using h
    unfold upto
    rw [List.takeWhile_cons, if_pos (by simpa using hc)]
    simp
theorem upto_all {b : UInt8} : ∀ {l : List UInt8}, b ∉ l → upto b l = l
  | [], _ => rfl
  | c :: l, h => by
    simp only [List.mem_cons, not_or] at h
    have ih := upto_all h.2
    unfold upto at *
    rw [List.takeWhile_cons, if_pos (by simpa using Ne.symm h.1), ih]
theorem vt_split {b : UInt8} (hb : b.toNat < 128) {l : List UInt8} (h : Vt l) : Vt (upto b l) ∧ Vt (l.drop (upto b l).length) := by
  have := h.cut (upto b l).length (fun c hc => by
    by_cases hm : b ∈ l
    · rw [upto_get hm] at hc; injection hc with hc; rw [← hc]; exact hb
    · have hu := upto_all hm
      rw [hu] at hc
      have := (List.getElem?_eq_some_iff.1 hc).1
      omega)
  rwa [upto_take] at this
theorem tokV_len {l : List UInt8} {t : Tk} {n : Nat} (hl : l ≠ []) (h : tokV l = .ok (t, n)) : 1 ≤ n ∧ n ≤ l.length ∧ (Vt l → Vt (l.drop n)) ∧ t.ps.length ≤ 16 := by
  unfold tokV at h
  split at h
  · cases ht : tagV l with
    | none => rw [ht] at h; simp at h
    | some p =>
      obtain ⟨k, x, ps, r⟩ := p
      rw [ht] at h
      simp only [Except.ok.injEq, Prod.mk.injEq] at h
      obtain ⟨rfl, rfl⟩ := h
      obtain ⟨g1, g2, g3, g4⟩ := tagV_len ht
      refine ⟨by omega, by omega, fun hv => ?_, g3⟩
      rw [suf_drop (tagV_suf ht)]
      exact g2 hv
  · rename_i h60
    cases hp' : pl (upto 60 l) with
    | error p => rw [hp'] at h; simp at h
    | ok u =>
      rw [hp'] at h
      simp only [Except.ok.injEq, Prod.mk.injEq] at h
      obtain ⟨rfl, rfl⟩ := h
      exact ⟨upto_pos hl h60, upto_le 60 l, fun hv => (vt_split (by decide) hv).2, by simp⟩
def scF : Nat → List UInt8 → Nat → List Tk → Except Nat (List Tk)
  | 0, _, _, acc => .ok acc
  | f + 1, l, p, acc => if l = [] then .ok acc else match tokV l with
    | .error q => .error (p + q)
    | .ok (t, n) => scF f (l.drop n) (p + n) (acc ++ [{ t with a := p }])
def scV (l : List UInt8) : Except Nat (List Tk) := scF l.length l 0 []
def SC (l : List UInt8) (p : Nat) (acc : List Tk) (R : Except Nat (List Tk)) : Prop := ∃ f, l.length ≤ f ∧ scF f l p acc = R
theorem SC.start (l : List UInt8) : SC l 0 [] (scV l) := ⟨_, Nat.le_refl _, rfl⟩
theorem SC.done {p : Nat} {acc : List Tk} {R : Except Nat (List Tk)} (h : SC [] p acc R) : R = .ok acc := by
  obtain ⟨f, _, h⟩ := h
  cases f with
  | zero => exact h.symm
  | succ f => exact h.symm
theorem SC.unf {l : List UInt8} {p : Nat} {acc : List Tk} {R : Except Nat (List Tk)} (h : SC l p acc R) (hl : l ≠ []) : ∃ f, l.length ≤ f + 1 ∧ scF (f + 1) l p acc = R := by
  obtain ⟨f, h1, h2⟩ := h
  have := List.length_pos_iff.2 hl
  obtain ⟨g, rfl⟩ : ∃ g, f = g + 1 := ⟨f - 1, by omega⟩
  exact ⟨g, h1, h2⟩
theorem SC.bad {l : List UInt8} {p q : Nat} {acc : List Tk} {R : Except Nat (List Tk)} (h : SC l p acc R) (hl : l ≠ []) (he : tokV l = .error q) : R = .error (p + q) := by
  obtain ⟨f, _, h2⟩ := h.unf hl
  rw [scF, if_neg hl, he] at h2
  exact h2.symm
theorem SC.step {l : List UInt8} {p n : Nat} {t : Tk} {acc : List Tk} {R : Except Nat (List Tk)} (h : SC l p acc R) (hl : l ≠ []) (he : tokV l = .ok (t, n)) : SC (l.drop n) (p + n) (acc ++ [{ t with a := p }]) R := by
  obtain ⟨f, h1, h2⟩ := h.unf hl
  rw [scF, if_neg hl, he] at h2
  have := tokV_len hl he
  exact ⟨f, by rw [List.length_drop]; omega, h2⟩
end Go.Proofs.YtpmdekhjodhdmaaDoor.K17
