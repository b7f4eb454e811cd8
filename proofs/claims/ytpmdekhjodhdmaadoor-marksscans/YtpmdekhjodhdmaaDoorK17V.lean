/-
  Rows of tokens that a call owns; what Scan answers.
-/
import Derived.Test.YtpmdekhjodhdmaaDoorK17U
namespace Go.Proofs.YtpmdekhjodhdmaaDoor.K17
open Go.RowKit Go.Proofs.YtpmdekhjodhdmaaDoor
open Go.Lib
set_option linter.unusedVariables false
set_option linter.unusedSimpArgs false
set_option maxRecDepth 8000

abbrev Tv := Tk × Value
abbrev tcs (p : Tv) : List Value := [.int .i64 p.1.k, .string ⟨p.1.x.toArray⟩, .string ⟨p.1.t.toArray⟩, p.2, .int .i64 (p.1.a : Int)]
abbrev tk0 : Tv := (⟨0, [], [], [], 0⟩, .slice none 0 0)
def flT (ps : List Tv) : List Value := ps.flatMap tcs
theorem flT_len (ps : List Tv) : (flT ps).length = ps.length * 5 := by
  induction ps with
  | nil => rfl
  | cons x r ih => unfold flT at *; rw [List.flatMap_cons, List.length_append, ih]; simp; omega
theorem flT_snoc (ps : List Tv) (x : Tv) : flT (ps ++ [x]) = flT ps ++ tcs x := by unfold flT; rw [List.flatMap_append]; simp
theorem flT_cons (x : Tv) (r : List Tv) : flT (x :: r) = tcs x ++ flT r := by unfold flT; rw [List.flatMap_cons]
theorem flT_at (ps : List Tv) : ∀ i j, i < ps.length → j < 5 → (flT ps)[i * 5 + j]? = (tcs (ps.getD i tk0))[j]? := by
  induction ps with
  | nil => intro i j h; simp at h
  | cons x r ih =>
    intro i j h hj
    rw [flT_cons]
    cases i with
    | zero => rw [List.getElem?_append_left (by simp; omega)]; simp
    | succ i =>
      rw [List.getElem?_append_right (by simp; omega)]
      have := ih i j (by simpa using h) hj
      simp only [List.length_cons, List.length_nil] at *
      rw [show (i + 1) * 5 + j - (0 + 1 + 1 + 1 + 1 + 1) = i * 5 + j by omega, this]
      simp
/- tokens lie in memory -/
def TLs (w : World) (a : Option Addr) (ts : List Tk) : Prop :=
  ts = [] ∨ ∃ b off, a = some ⟨b, off, none⟩ ∧ b < w.heap.size ∧ ∀ i, i < ts.length → ∃ aa ac, ALs w aa (ts.getD i tk0.1).ps ∧ (ts.getD i tk0.1).ps.length ≤ 1000000 ∧
    w.cell? ⟨b, off + i * 5, none⟩ = some (.int .i64 (ts.getD i tk0.1).k) ∧ w.cell? ⟨b, off + i * 5 + 1, none⟩ = some (.string ⟨(ts.getD i tk0.1).x.toArray⟩) ∧ w.cell? ⟨b, off + i * 5 + 2, none⟩ = some (.string ⟨(ts.getD i tk0.1).t.toArray⟩) ∧
    w.cell? ⟨b, off + i * 5 + 3, none⟩ = some (.slice aa (ts.getD i tk0.1).ps.length ac) ∧ w.cell? ⟨b, off + i * 5 + 4, none⟩ = some (.int .i64 ((ts.getD i tk0.1).a : Int))
theorem TLs.below {w w' : World} {a : Option Addr} {ts : List Tk} (h : TLs w a ts) (hb : Below w.heap.size w w') : TLs w' a ts := by
  rcases h with h | ⟨b, off, h1, h2, h3⟩
  · exact Or.inl h
  · refine Or.inr ⟨b, off, h1, Nat.lt_of_lt_of_le h2 hb.size, fun i hi => ?_⟩
    obtain ⟨aa, ac, q, ql, q0, q1, q2, q3, q4⟩ := h3 i hi
    refine ⟨aa, ac, q.below hb, ql, ?_⟩
    rw [hb.cell (p := ⟨b, off + i * 5, none⟩) h2, hb.cell (p := ⟨b, off + i * 5 + 1, none⟩) h2, hb.cell (p := ⟨b, off + i * 5 + 2, none⟩) h2, hb.cell (p := ⟨b, off + i * 5 + 3, none⟩) h2, hb.cell (p := ⟨b, off + i * 5 + 4, none⟩) h2]
    exact ⟨q0, q1, q2, q3, q4⟩
/- a row of tokens of a call's own; their attributes lie in rows of attributes -/
def TRow (w : World) (B : Nat) (v : Value) (ts : List Tk) : Prop := ∃ tv : List Tv, tv.map Prod.fst = ts ∧ w.ownsRow B 45 5 v tv.length (flT tv) ∧ ∀ p ∈ tv, ARow w 0 p.2 p.1.ps ∧ p.1.ps.length ≤ 1000000
theorem TRow.nil (w : World) (B : Nat) : TRow w B (.slice none 0 0) [] := ⟨[], rfl, World.ownsRow_nil _ _ _ _, by simp⟩
theorem TRow.below {w w' : World} {B : Nat} {v : Value} {ts : List Tk} (h : TRow w B v ts) (hb : Below w.heap.size w w') : TRow w' B v ts := by
  obtain ⟨tv, h1, h2, h3⟩ := h
  exact ⟨tv, h1, ownsRow_kc h2 (KC.of_below hb), fun p hp => ⟨(h3 p hp).1.below hb, (h3 p hp).2⟩⟩
theorem TRow.lst {w : World} {B : Nat} {v : Value} {ts : List Tk} (h : TRow w B v ts) : ∃ a cap, v = .slice a ts.length cap ∧ TLs w a ts ∧ ts.length ≤ cap ∧ cap ≤ 9223372036854775807 := by
  obtain ⟨tv, rfl, h2, h3⟩ := h
  have h' := h2
  obtain ⟨_, ⟨h0, hz⟩ | ⟨g, cap, cur, hv, hg, hh, hc, hm, _⟩⟩ := h'
  · obtain rfl : tv = [] := List.eq_nil_of_length_eq_zero hz
    exact ⟨none, 0, h0, Or.inl rfl, by simp, by omega⟩
  · refine ⟨_, cap, by rw [List.length_map]; exact hv, ?_, by rw [List.length_map]; exact hc, by unfold maxLen at hm; exact hm⟩
    rw [hv] at h2
    refine Or.inr ⟨g, 0, rfl, heap_lt hh, fun i hi => ?_⟩
    rw [List.length_map] at hi
    have hge : (tv.map Prod.fst).getD i tk0.1 = (tv.getD i tk0).1 := by
      rw [List.getD_eq_getElem?_getD, List.getD_eq_getElem?_getD, List.getElem?_map, List.getElem?_eq_getElem hi]; rfl
    rw [hge]
    have hmem : tv.getD i tk0 ∈ tv := by rw [List.getD_eq_getElem?_getD, List.getElem?_eq_getElem hi]; exact List.getElem_mem _
    have hcell : ∀ j, j < 5 → w.cell? ⟨g, i * 5 + j, none⟩ = (tcs (tv.getD i tk0))[j]? := fun j hj => by
      rw [World.ownsRow.cellAt h2 (i * 5 + j) (by omega), flT_at tv i j hi hj]
    generalize tv.getD i tk0 = p at *
    obtain ⟨p1, p2⟩ := p
    obtain ⟨q1, q2⟩ := h3 _ hmem
    obtain ⟨aa, ac, he, hA, _⟩ := q1.lst
    simp only at he
    subst he
    rw [Nat.zero_add]
    exact ⟨aa, ac, hA, q2, hcell 0 (by omega), hcell 1 (by omega), hcell 2 (by omega), hcell 3 (by omega), hcell 4 (by omega)⟩
theorem info_tk : (Tryd.prog.info? 45).map (fun i => (i.zero, i.size, i.bytes)) = some (some (.agg zt), 5, 72) := by kernel_rfl
theorem tcs_one (c : Tv) (h : ∃ a n k, c.2 = .slice a n k) : ∀ u ∈ tcs c, u.oneCell' = true := by
  obtain ⟨a, n, k, h⟩ := h
  intro u hu
  simp only [tcs, List.mem_cons, List.not_mem_nil, or_false] at hu
  rcases hu with rfl | rfl | rfl | rfl | rfl
  all_goals first | rfl | (rw [h]; rfl)
theorem ARow.ty {w w' : World} {B : Nat} {v : Value} {ps : List At} (h : ARow w B v ps) (hk : ∀ (k : Nat) (c : Array Value) (t : TypeId) (f : Nat × Nat), w.heap[k]? = some (Obj.cells c t f) → t ≠ 45 → w'.heap[k]? = some (Obj.cells c t f)) : ARow w' B v ps := by
  obtain ⟨h1, h2 | ⟨g, cap, cur, hv, hg, hh, hr⟩⟩ := h
  · exact ⟨h1, Or.inl h2⟩
  · exact ⟨h1, Or.inr ⟨g, cap, cur, hv, hg, hk _ _ _ _ hh (by decide), hr⟩⟩
/- one token appended -/
theorem app_tk {W : World} {B : Nat} {v va : Value} {ts : List Tk} (t : Tk) (H : Nat) (hH : W.heap.size = H) (h : TRow W B v ts) (ha : ARow W 0 va t.ps) (hp : t.ps.length ≤ 1000000) (hB : B ≤ W.heap.size) (hl : ts.length ≤ 1048576) :
    ∃ v' w2, (Builtin.append_ #[23, 23] 23 #[v, .slice (some ⟨H, 0, none⟩) 1 1]).run Tryd.prog (W.alloc (.cells (tcs (t, va)).toArray 45)) = .ok v' w2 ∧ TRow w2 B v' (ts ++ [t]) ∧ Below B W w2 := by
  subst hH
  obtain ⟨i0, hi, hz0, hz1, hz2⟩ := info_parts info_tk
  obtain ⟨tv, rfl, h2, h3⟩ := h
  rw [List.length_map] at hl
  obtain ⟨aa, ac, hva, _⟩ := ha.lst
  obtain ⟨gg, cap, w2, hr, ho, hg, hat, _⟩ := run_append_lies (P := Tryd.prog) (W.alloc (.cells (tcs (t, va)).toArray 45)) 23 23 B 45 i0 _ 5 72 Tryd.underlying23 hi hz0 hz1 hz2 rfl (by decide) v tv.length (flT tv) (World.ownsRow.alloc h2 _) ⟨W.heap.size, 0, none⟩ 1 1 (tcs (t, va)) (by simp)
    (fun j u hu => by rw [Go.WideShapes.add_plain, Nat.zero_add, World.cell?_alloc_at _ _ _ _ rfl]; simpa using hu) (tcs_one _ ⟨_, _, _, hva⟩) (by decide) (by unfold maxLen; omega) (by omega) (by simp; omega) (W.heap.size + 1) (by simp)
  have hal := (Below.refl W.heap.size W).alloc (Nat.le_refl _) (.cells (tcs (t, va)).toArray 45)
  have hty : ∀ (k : Nat) (c : Array Value) (t : TypeId) (f : Nat × Nat), W.heap[k]? = some (Obj.cells c t f) → t ≠ 45 → w2.heap[k]? = some (Obj.cells c t f) := fun k c t f hc ht => by
    have hk := heap_lt hc
    rw [hg.block k (by simp; omega) (fun e => by
      obtain ⟨_, ⟨h0, _⟩ | ⟨g, cap, cur, hv, _, hh, _⟩⟩ := h2
      · rw [h0] at e; simp [Value.ownBlock] at e
      · rw [hv] at e
        have : k = g := by simpa [Value.ownBlock] using e
        subst this
        rw [hc] at hh
        injection hh with hh
        injection hh with _ e _
        exact ht e)]
    rw [hal.block k hk]; exact hc
  refine ⟨_, w2, hr, ⟨tv ++ [(t, va)], by simp, by rw [flT_snoc, List.length_append]; exact ho, fun p hp' => ?_⟩, ((Below.refl B W).alloc hB _).grown hg (by simp; omega) fun k hk' => (World.ownsRow.lt h2 k hk').1⟩
  rw [List.mem_append, List.mem_singleton] at hp'
  rcases hp' with hp' | rfl
  · exact ⟨(h3 p hp').1.ty hty, (h3 p hp').2⟩
  · exact ⟨ha.ty hty, hp⟩
/- by what Decode says -/
theorem rd_vt (l : List UInt8) : ((rd st8 l 0).2.2 = 0 ∨ (rd st8 l 0).2.2 = 40) ∧ ((rd st8 l 0).2.2 = 0 ↔ Vt l) := by
  have key : ∀ (n : Nat) (l : List UInt8) (p : Nat) (acc : List Int), l.length ≤ n → ∀ R, Rd st8 l p acc R → ((R.2.2 = 0 ∨ R.2.2 = 40) ∧ (R.2.2 = 0 ↔ Vt l)) := by
    intro n
    induction n with
    | zero =>
      intro l p acc h R hR
      obtain rfl : l = [] := List.length_eq_zero_iff.1 (by omega)
      rw [hR.done]
      exact ⟨Or.inl rfl, by simp; exact .nil⟩
    | succ n ih =>
      intro l p acc h R hR
      by_cases hl : l = []
      · subst hl
        rw [hR.done]
        exact ⟨Or.inl rfl, by simp; exact .nil⟩
      by_cases h0 : (st8 l).2 = 0
      · rw [hR.bad hl h0]
        refine ⟨Or.inr rfl, fun h => absurd h (by simp), fun hv => ?_⟩
        obtain ⟨c, r, he, hc, hr, hd⟩ := hv.step hl
        rw [he, code8.back c r hc] at h0
        have := code8.len c
        simp only at h0
        omega
      · have hst := hR.step hl h0
        obtain ⟨g1, g2, g3⟩ := code8.good l h0
        have hlen := (code8.len (st8 l).1).1
        have hdl : (l.drop (st8 l).2).length ≤ n := by rw [List.length_drop]; have := List.length_pos_iff.2 hl; omega
        obtain ⟨q1, q2⟩ := ih _ _ _ hdl R hst
        refine ⟨q1, q2.trans ⟨fun hv => ?_, fun hv => ?_⟩⟩
        · have := Vt.cons _ _ g1 hv
          rwa [g2, List.take_append_drop] at this
        · obtain ⟨c, r, he, hc, hr, hd⟩ := hv.step hl
          rw [st_dN h0] at hd
          rw [hd]
          simp only
          rw [he, List.drop_left' rfl]
          exact hr
  exact key _ _ _ _ (Nat.le_refl _) _ (Rd.start _ _ _)
end Go.Proofs.YtpmdekhjodhdmaaDoor.K17
