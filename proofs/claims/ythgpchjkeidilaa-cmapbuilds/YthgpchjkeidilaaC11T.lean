/-
  Rows of spans that a call owns; what Read's closure answers.
-/
import Derived.Test.YthgpchjkeidilaaC11F
import Derived.Deep.AppendLies
namespace Go.Proofs.Ythgpchjkeidilaa
open Go.RowKit Go.Deep
set_option linter.unusedVariables false

def fl3 (cs : List Ch) : List Int := cs.flatMap fun x => [x.f, x.l, x.g]
theorem fl3_len (cs : List Ch) : (fl3 cs).length = cs.length * 3 := by
  induction cs with
  | nil => rfl
  | cons x r ih => unfold fl3 at *; rw [List.flatMap_cons, List.length_append, ih]; simp; omega
theorem fl3_snoc (cs : List Ch) (x : Ch) : fl3 (cs ++ [x]) = fl3 cs ++ [x.f, x.l, x.g] := by unfold fl3; rw [List.flatMap_append]; simp
theorem fl3_set (cs : List Ch) (x : Ch) (c : Int) : (fl3 (cs ++ [x])).set (cs.length * 3 + 1) c = fl3 (cs ++ [⟨x.f, c, x.g⟩]) := by
  rw [fl3_snoc, fl3_snoc, List.set_append_right _ _ (by rw [fl3_len]; omega), fl3_len, show cs.length * 3 + 1 - cs.length * 3 = 1 by omega]
  rfl
theorem fl3_at (cs : List Ch) : ∀ i, i < cs.length → (fl3 cs).getD (i * 3) 0 = (cs.getD i c0).f ∧ (fl3 cs).getD (i * 3 + 1) 0 = (cs.getD i c0).l ∧ (fl3 cs).getD (i * 3 + 2) 0 = (cs.getD i c0).g := by
  induction cs with
  | nil => intro i h; simp at h
  | cons x r ih =>
    intro i h
    have e : fl3 (x :: r) = x.f :: x.l :: x.g :: fl3 r := by unfold fl3; rw [List.flatMap_cons]; rfl
    rw [e]
    cases i with
    | zero => exact ⟨rfl, rfl, rfl⟩
    | succ i =>
      obtain ⟨h1, h2, h3⟩ := ih i (by simpa using h)
      rw [show (i + 1) * 3 = i * 3 + 1 + 1 + 1 by omega, show i * 3 + 1 + 1 + 1 + 1 = i * 3 + 1 + 1 + 1 + 1 from rfl, show i * 3 + 1 + 1 + 1 + 2 = i * 3 + 2 + 1 + 1 + 1 by omega]
      simp only [List.getD_cons_succ]
      exact ⟨h1, h2, h3⟩
def CRow (w : World) (B : Nat) (v : Value) (cs : List Ch) : Prop := w.ownsRow B 31 3 v cs.length ((fl3 cs).map (Value.int .i64))
theorem CRow.nil (w : World) (B : Nat) : CRow w B (.slice none 0 0) [] := World.ownsRow_nil _ _ _ _
theorem info_ch : (Try.prog.info? 31).map (fun i => (i.zero, i.size, i.bytes)) = some (some (.agg #[.int .i64 0, .int .i64 0, .int .i64 0]), 3, 24) := by kernel_rfl
theorem CRow.shape {w : World} {B : Nat} {v : Value} {cs : List Ch} (h : CRow w B v cs) (h0 : 0 < cs.length) : ∃ g cap, v = .slice (some ⟨g, 0, none⟩) cs.length cap ∧ B ≤ g ∧ g < w.heap.size := by
  have h' := h
  obtain ⟨_, ⟨_, h1⟩ | ⟨g, cap, cur, hv, hg, hh, hc, hm, _⟩⟩ := h'
  · omega
  · rw [hv] at h
    exact ⟨g, cap, hv, hg, (World.ownsRow.lt h g rfl).2⟩
theorem CRow.emp {w : World} {B : Nat} {v : Value} (h : CRow w B v []) : ∃ a cap, v = .slice a 0 cap := by
  obtain ⟨_, ⟨h0, h1⟩ | ⟨g, cap, cur, hv, _⟩⟩ := h
  · exact ⟨none, 0, h0⟩
  · exact ⟨_, cap, hv⟩
theorem CRow.cell {w : World} {B g n cap : Nat} {cs : List Ch} (h : CRow w B (.slice (some ⟨g, 0, none⟩) n cap) cs) (hn : cs.length = n) (i : Nat) (hi : i < n) :
    (w.cell? ⟨g, i * 3, none⟩ = some (.int .i64 (cs.getD i c0).f) ∧ w.cell? ⟨g, i * 3 + 1, none⟩ = some (.int .i64 (cs.getD i c0).l) ∧ w.cell? ⟨g, i * 3 + 2, none⟩ = some (.int .i64 (cs.getD i c0).g)) ∧ w.frozen? ⟨g, i * 3 + 1, none⟩ = false := by
  subst hn
  obtain ⟨e0, e1, e2⟩ := fl3_at cs i hi
  have hc : ∀ j, j < cs.length * 3 → w.cell? ⟨g, j, none⟩ = some (.int .i64 ((fl3 cs).getD j 0)) := fun j hj => by
    have hl : j < (fl3 cs).length := by rw [fl3_len]; exact hj
    rw [World.ownsRow.cellAt h j hj, List.getElem?_map, List.getElem?_eq_getElem hl, List.getD_eq_getElem?_getD, List.getElem?_eq_getElem hl]
    rfl
  exact ⟨⟨by rw [hc _ (by omega), e0], by rw [hc _ (by omega), e1], by rw [hc _ (by omega), e2]⟩, World.ownsRow.frozenAt h _⟩
theorem CRow.lst {w : World} {B : Nat} {v : Value} {cs : List Ch} (h : CRow w B v cs) : ∃ a cap, v = .slice a cs.length cap ∧ CLst w a cs := by
  by_cases h0 : 0 < cs.length
  · obtain ⟨g, cap, rfl, hg, hl⟩ := h.shape h0
    refine ⟨_, cap, rfl, Or.inr ⟨g, 0, rfl, hl, fun i hi => ?_⟩⟩
    rw [Nat.zero_add]
    exact (h.cell rfl i hi).1
  · have e : cs = [] := List.eq_nil_of_length_eq_zero (by omega)
    subst e
    obtain ⟨a, cap, rfl⟩ := h.emp
    exact ⟨a, cap, rfl, Or.inl rfl⟩
theorem CRow.stored {w : World} {B g n cap : Nat} {cs : List Ch} (x : Ch) (c : Int) (h : CRow w B (.slice (some ⟨g, 0, none⟩) n cap) (cs ++ [x])) (hn : (cs ++ [x]).length = n) : CRow (w.setCell ⟨g, cs.length * 3 + 1, none⟩ (.int .i64 c)) B (.slice (some ⟨g, 0, none⟩) n cap) (cs ++ [⟨x.f, c, x.g⟩]) := by
  subst hn
  have := (World.ownsRow.stored h (cs.length * 3 + 1) (.int .i64 c)).1
  unfold CRow
  rw [← fl3_set cs x c, List.map_set]
  have e : (cs ++ [(⟨x.f, c, x.g⟩ : Ch)]).length = (cs ++ [x]).length := by simp
  rw [e]
  exact this
theorem CRow.kept {w w' : World} {B : Nat} {v : Value} {cs : List Ch} (h : CRow w B v cs) (hk : ∀ k, B ≤ k → k < w.heap.size → w'.heap[k]? = w.heap[k]?) : CRow w' B v cs := ownsRow_kept h hk
theorem app_c {W : World} {B : Nat} {v : Value} {cs : List Ch} (f l g : Int) (h : CRow W B v cs) (hB : B ≤ W.heap.size) (hl : cs.length ≤ 1000000) :
    ∃ v' w2, (Builtin.append_ #[22, 22] 22 #[v, .slice (some ⟨W.heap.size, 0, none⟩) 1 1]).run Try.prog (W.alloc (.cells #[.int .i64 f, .int .i64 l, .int .i64 g] 31)) = .ok v' w2 ∧
      CRow w2 B v' (cs ++ [⟨f, l, g⟩]) ∧ Below B W w2 ∧ W.heap.size ≤ w2.heap.size ∧ (∀ k, k < W.heap.size → v.ownBlock ≠ some k → w2.heap[k]? = W.heap[k]?) := by
  obtain ⟨i0, hi, hz0, hz1, hz2⟩ := info_parts5 info_ch
  obtain ⟨gg, cap, w2, hr, ho, hg, hat, _⟩ := run_append_lies (P := Try.prog) (W.alloc (.cells #[.int .i64 f, .int .i64 l, .int .i64 g] 31)) 22 22 B 31 i0 _ 3 24 Try.underlying22 hi hz0 hz1 hz2 rfl (by decide) v cs.length ((fl3 cs).map (Value.int .i64)) (World.ownsRow.alloc h _) ⟨W.heap.size, 0, none⟩ 1 1 [.int .i64 f, .int .i64 l, .int .i64 g] (by simp)
    (fun j u hu => by rw [Go.WideShapes.add_plain, Nat.zero_add, World.cell?_alloc_at _ _ _ _ rfl]; simpa using hu) (fun u hu => by simp at hu; rcases hu with rfl | rfl | rfl <;> rfl) (by decide) (by unfold maxLen; omega) (by omega) (by simp; omega) (W.heap.size + 1) (by simp)
  refine ⟨_, w2, hr, ?_, ((Below.refl B W).alloc hB _).grown hg (by simp; omega) fun k hk' => (World.ownsRow.lt h k hk').1, ?_, ?_⟩
  · unfold CRow
    rw [fl3_snoc, List.map_append, List.length_append]
    exact ho
  · have := hg.size; simp at this; omega
  · intro k hk hne
    rw [hg.block k (by simp; omega) (Ne.symm hne)]
    exact ((Below.refl W.heap.size W).alloc (Nat.le_refl _) (.cells #[.int .i64 f, .int .i64 l, .int .i64 g] 31)).block k hk

/- what taking a code leaves alone: all below the list's variable, and all blocks of another type but it -/
structure TF (L : Nat) (w w' : World) : Prop where
  below : Below L w w'
  size : w.heap.size ≤ w'.heap.size
  block : ∀ k, k < w.heap.size → k ≠ L → (∀ c f, w.heap[k]? ≠ some (.cells c 31 f)) → w'.heap[k]? = w.heap[k]?
theorem TF.refl (L : Nat) (w : World) : TF L w w := ⟨Below.refl _ _, Nat.le_refl _, fun _ _ _ _ => rfl⟩
theorem TF.trans {L : Nat} {a b c : World} (h : TF L a b) (k : TF L b c) : TF L a c :=
  ⟨h.below.trans k.below, Nat.le_trans h.size k.size, fun i hi hn ht => by
    have e := h.block i hi hn ht
    rw [k.block i (Nat.lt_of_lt_of_le hi h.size) hn (by rw [e]; exact ht), e]⟩
theorem TF.of_below {L : Nat} {w w' : World} (h : Below w.heap.size w w') (hL : L ≤ w.heap.size) : TF L w w' := ⟨h.mono hL, h.size, fun k hk _ _ => h.block k hk⟩
theorem TF.blk {L b : Nat} {w w' : World} {cs : Array Value} {t : TypeId} (h : TF L w w') (hb : Blk w b cs t) (hn : b ≠ L) (ht : t ≠ 31) : Blk w' b cs t := by
  have hl := hb.lt
  unfold Blk at *
  rw [h.block b hl hn (fun c f e => by rw [hb] at e; injection e with e; injection e with _ e _; exact ht e)]
  exact hb
theorem TF.drewN {L : Nat} {w w' : World} (h : TF L w w') (n : Nat) : TF L w (w'.drewN n) := ⟨below_drewN h.below n, h.size, h.block⟩
/- the list's variable, and what it holds -/
def TkS (w : World) (L : Nat) (cs : List Ch) : Prop := ∃ v, Blk w L #[v] 22 ∧ CRow w (L + 1) v cs
theorem TkS.below {w w' : World} {L : Nat} {cs : List Ch} (h : TkS w L cs) (hb : Below w.heap.size w w') : TkS w' L cs := by
  obtain ⟨v, h1, h2⟩ := h
  exact ⟨v, h1.below hb, h2.kept fun k _ hk => hb.block k hk⟩
theorem TkS.drewN {w : World} {L : Nat} {cs : List Ch} (h : TkS w L cs) (n : Nat) : TkS (w.drewN n) L cs := h
theorem TkS.lt {w : World} {L : Nat} {cs : List Ch} (h : TkS w L cs) : L < w.heap.size := by obtain ⟨v, h1, _⟩ := h; exact h1.lt
def TkR (w : World) (L : Nat) (R : Option (List Ch)) (e : Ending) (w' : World) : Prop := match R with
  | some cs => e = .returned (.bool true) ∧ TkS w' L cs ∧ TF L w w'
  | none => e = .returned (.bool false) ∧ TF L w w'
theorem put_list {w : World} {L : Nat} {v v' : Value} {cs : List Ch} (h : Blk w L #[v] 22) (hr : CRow w (L + 1) v' cs) : TkS (w.setCell ⟨L, 0, none⟩ v') L cs :=
  ⟨v', Blk.set h 0 v', hr.kept fun k hk _ => Below.heap_setCell _ _ _ _ (show k ≠ L by omega)⟩
theorem tf_put (w : World) (L : Nat) (v : Value) : TF L w (w.setCell ⟨L, 0, none⟩ v) :=
  ⟨(Below.refl L w).setCell (p := ⟨L, 0, none⟩) (Nat.le_refl _) _, by simp [World.setCell], fun k _ hn _ => Below.heap_setCell _ _ _ _ hn⟩
theorem tf_store {w : World} {L g n cap j : Nat} {cs : List Ch} (u : Value) (h : CRow w (L + 1) (.slice (some ⟨g, 0, none⟩) n cap) cs) (hg : L + 1 ≤ g) : TF L w (w.setCell ⟨g, j, none⟩ u) :=
  ⟨(Below.refl L w).setCell (p := ⟨g, j, none⟩) (show L ≤ g by omega) _, by simp [World.setCell], fun k _ _ ht => by
    by_cases e : k = g
    · subst e
      obtain ⟨_, ⟨h0, _⟩ | ⟨g', cap', cur, hv, hg', hh, _⟩⟩ := h
      · simp at h0
      · simp only [Value.slice.injEq, Option.some.injEq, Addr.mk.injEq, and_true] at hv
        obtain ⟨rfl, _⟩ := hv
        exact absurd hh (ht _ _)
    · exact Below.heap_setCell _ _ _ _ e⟩
theorem tf_app {w w2 : World} {L : Nat} {v : Value} {cs : List Ch} (h : CRow w (L + 1) v cs) (hb : Below (L + 1) w w2) (hs : w.heap.size ≤ w2.heap.size) (hk : ∀ k, k < w.heap.size → v.ownBlock ≠ some k → w2.heap[k]? = w.heap[k]?) : TF L w w2 :=
  ⟨hb.mono (by omega), hs, fun k hl _ ht => hk k hl (fun e => by
    obtain ⟨_, ⟨h0, _⟩ | ⟨g', cap', cur, hv, hg', hh, _⟩⟩ := h
    · rw [h0] at e; simp [Value.ownBlock] at e
    · rw [hv] at e
      have : k = g' := by simpa [Value.ownBlock] using e.symm
      subst this
      exact absurd hh (ht _ _))⟩
set_option maxHeartbeats 1000000 in
theorem take_any (L : Nat) (c g : Int) (cs : List Ch) (w : World) (h : TkS w L cs) (bd : BD cs) (g0 : 0 ≤ g) (g1 : g ≤ 4294967296) (hc0 : 0 ≤ c) (hc1 : c ≤ 1114111) :
    Calls Try.prog 17 #[.int .i64 c, .int .i64 g, .pointer (some ⟨L, 0, none⟩)] w (TkR w L (addC cs c g)) := by
  obtain ⟨v, hb, hr⟩ := h
  have hLT := hb.lt
  by_cases hz : g = 0
  · subst hz
    rw [addC_zero]
    obtain ⟨a, cap, rfl, _⟩ := hr.lst
    have z0 : w.cell? ⟨L, 0, none⟩ = some (.slice a cs.length cap) := hb.cell 0
    have HS := hide (show TkS w L cs from ⟨_, hb, hr⟩)
    have l1 : (cs.length : Int) ≤ 4096 := by have := bd.1; omega
    generalize cs.length = n at z0 l1
    clear hb hr bd
    go_enter Try.func17, Try.ntmps17
    go_wp2_with fail
    go_ret
    exact ⟨rfl, HS.out, TF.refl _ _⟩
  have hz' : (g == 0) = false := by simpa using hz
  rcases List.eq_nil_or_concat cs with rfl | ⟨ini, x, rfl⟩
  · rw [addC_nil c g hz]
    obtain ⟨a, cap, rfl⟩ := hr.emp
    have z0 : w.cell? ⟨L, 0, none⟩ = some (.slice a 0 cap) := hb.cell 0
    have zf : w.frozen? ⟨L, 0, none⟩ = false := hb.frozen 0
    obtain ⟨v2, w2, hrun, hr2, hb2, hs2, hk2⟩ := app_c (W := w) (B := L + 1) c c g hr (by omega) (by simp)
    rw [List.nil_append] at hr2
    have hbl2 : Blk w2 L #[.slice a 0 cap] 22 := hb.kept hb2 (by omega)
    obtain ⟨g2, cap2, rfl, hg2, _⟩ := hr2.shape (by simp)
    have y0 : w2.cell? ⟨L, 0, none⟩ = some (.slice a 0 cap) := hbl2.cell 0
    have yf : w2.frozen? ⟨L, 0, none⟩ = false := hbl2.frozen 0
    have HS := hide (put_list hbl2 hr2)
    have HT := hide ((tf_app hr hb2 hs2 hk2).trans (tf_put w2 L (.slice (some ⟨g2, 0, none⟩) 1 cap2)))
    have HRUN := hide hrun
    have q0 : (w2.setCell ⟨L, 0, none⟩ (.slice (some ⟨g2, 0, none⟩) 1 cap2)).cell? ⟨L, 0, none⟩ = some (.slice (some ⟨g2, 0, none⟩) 1 cap2) := (Blk.set hbl2 0 _).cell 0
    clear hrun hr2 hb2 hs2 hk2 hbl2 hb hr bd hz
    go_enter Try.func17, Try.ntmps17
    go_wp2_with (at_builtin; refine Lib.wpList_append_run _ rfl _ _ _ _ rfl _ _ rfl rfl _ _ HRUN.out ?_)
    go_ret
    exact ⟨rfl, HS.out, HT.out⟩
  rw [List.concat_eq_append] at *
  obtain ⟨l1, x1, x2, x3, x4, x5⟩ := bd.last
  obtain ⟨gr, cap, rfl, hgr, hgl⟩ := hr.shape (by simp)
  have hlen : (ini ++ [x]).length = ini.length + 1 := by simp
  obtain ⟨⟨d0, d1, d2⟩, df⟩ := hr.cell rfl ini.length (by simp)
  have hx : (ini ++ [x]).getD ini.length c0 = x := by simp [List.getD_eq_getElem?_getD]
  rw [hx] at d0 d1 d2
  have z0 : w.cell? ⟨L, 0, none⟩ = some (.slice (some ⟨gr, 0, none⟩) (ini.length + 1) cap) := by rw [← hlen]; exact hb.cell 0
  have zf : w.frozen? ⟨L, 0, none⟩ = false := hb.frozen 0
  have C := hide (fun w => goes_any x.f x.l x.g c g w x1 x2 x3 x4 (by omega))
  have hlenI : ((ini.length + 1 : Nat) : Int) = (ini.length : Int) + 1 := by omega
  have n1 : (ini.length : Int) ≤ 4095 := by omega
  have n0 : (0 : Int) ≤ (ini.length : Int) := by omega
  cases hgo : goB x c g
  · have hgo' : goB ⟨x.f, x.l, x.g⟩ c g = false := hgo
    rw [hgo'] at C
    have HB := hide hb
    have HR := hide hr
    have HLN := hide hlen
    have HAD := hide (And.intro (addC_new ini x c g hz hgo) (addC_full ini x c g hz hgo))
    obtain ⟨xf, xl, xg⟩ := x
    simp only at d0 d1 d2 C
    obtain ⟨N, hN⟩ : ∃ N, ini.length = N := ⟨_, rfl⟩
    rw [hN] at d0 d1 d2 df z0 n1 n0 HLN HAD
    generalize addC (ini ++ [⟨xf, xl, xg⟩]) c g = RR at HAD ⊢
    clear hb hr bd hz x1 x2 x3 x4 x5 hgo hgo' hlen hlenI hx l1 hN
    go_enter Try.func17, Try.ntmps17
    go_wp2_with fail
    refine (C.out _).mono ?_
    rintro e w1 ⟨rfl, hb1⟩
    have hbl1 := HB.out.below hb1
    have hr1 := HR.out.kept fun k _ hk => hb1.block k hk
    have hbase : L + 1 ≤ w1.heap.size := Nat.le_trans hLT hb1.size
    have z1 : w1.cell? ⟨L, 0, none⟩ = some (.slice (some ⟨gr, 0, none⟩) (N + 1) cap) := by rw [← HLN.out]; exact hbl1.cell 0
    obtain ⟨v2, w2, hrun, hr2, hb2, hs2, hk2⟩ := app_c (W := w1) (B := L + 1) c c g hr1 hbase (by rw [HLN.out]; omega)
    have hbl2 := hbl1.kept hb2 (by omega)
    obtain ⟨g2, cap2, rfl, hg2, _⟩ := hr2.shape (by simp)
    have hl2 : (ini ++ [(⟨xf, xl, xg⟩ : Ch)] ++ [(⟨c, c, g⟩ : Ch)]).length = N + 2 := by have := HLN.out; rw [List.length_append, this]; rfl
    rw [hl2] at hrun
    rw [HLN.out] at hrun
    have y0 : w2.cell? ⟨L, 0, none⟩ = some (.slice (some ⟨gr, 0, none⟩) (N + 1) cap) := by rw [← HLN.out]; exact hbl2.cell 0
    have yf : w2.frozen? ⟨L, 0, none⟩ = false := hbl2.frozen 0
    have HS := hide (put_list hbl2 hr2)
    rw [hl2] at HS
    have HT := hide (((TF.of_below hb1 (Nat.le_of_lt hLT)).trans (tf_app hr1 hb2 hs2 hk2)).trans (tf_put w2 L (.slice (some ⟨g2, 0, none⟩) (N + 2) cap2)))
    have HRUN := hide hrun
    have q0 : (w2.setCell ⟨L, 0, none⟩ (.slice (some ⟨g2, 0, none⟩) (N + 2) cap2)).cell? ⟨L, 0, none⟩ = some (.slice (some ⟨g2, 0, none⟩) (N + 2) cap2) := (Blk.set hbl2 0 _).cell 0
    clear hrun hr2 hb2 hs2 hk2 hbl2 hbl1 hr1 hl2 hb1
    by_cases hful : N + 1 < 4096
    · have t1 : (N : Int) + 2 ≤ 4096 := by omega
      go_wp2_with (at_builtin; refine Lib.wpList_append_run _ rfl _ _ _ _ rfl _ _ rfl rfl _ _ HRUN.out ?_)
      go_ret
      rw [HAD.out.1 hful]
      exact ⟨rfl, HS.out, HT.out⟩
    · have t1 : ¬ (N : Int) + 2 ≤ 4096 := by omega
      have t2 : decide (N + 2 ≤ 4096) = false := by simp; omega
      go_wp2_with (at_builtin; refine Lib.wpList_append_run _ rfl _ _ _ _ rfl _ _ rfl rfl _ _ HRUN.out ?_)
      go_ret
      rw [HAD.out.2 hful]
      refine ⟨?_, HT.out⟩
      simp [Array.getD]
      omega
  · have hgo' : goB ⟨x.f, x.l, x.g⟩ c g = true := hgo
    rw [hgo'] at C
    rw [addC_go ini x c g hz hgo]
    have HB := hide hb
    have HR := hide hr
    have HLN := hide hlen
    obtain ⟨xf, xl, xg⟩ := x
    simp only at d0 d1 d2 C
    obtain ⟨N, hN⟩ : ∃ N, ini.length = N := ⟨_, rfl⟩
    have HNN := hide hN
    rw [hN] at d0 d1 d2 df z0 n1 n0 HLN
    clear hb hr bd hz x1 x2 x3 x4 x5 hgo hgo' hlen hlenI hx l1 hN
    go_enter Try.func17, Try.ntmps17
    go_wp2_with fail
    refine (C.out _).mono ?_
    rintro e w1 ⟨rfl, hb1⟩
    have hbl1 := HB.out.below hb1
    have hr1 := HR.out.kept fun k _ hk => hb1.block k hk
    have z1 : w1.cell? ⟨L, 0, none⟩ = some (.slice (some ⟨gr, 0, none⟩) (N + 1) cap) := by rw [← HLN.out]; exact hbl1.cell 0
    obtain ⟨⟨_, d4, _⟩, d5⟩ := hr1.cell rfl ini.length (by simp)
    rw [HNN.out] at d4 d5
    generalize ((ini ++ [(⟨xf, xl, xg⟩ : Ch)]).getD N c0).l = old at d4
    have HS := hide (show TkS (w1.setCell ⟨gr, N * 3 + 1, none⟩ (.int .i64 c)) L (ini ++ [⟨xf, c, xg⟩]) from ⟨_, hbl1.other (by omega) _ _, by have := hr1.stored ⟨xf, xl, xg⟩ c rfl; rw [HNN.out] at this; exact this⟩)
    have HT := hide ((TF.of_below hb1 (Nat.le_of_lt hLT)).trans (tf_store (j := N * 3 + 1) (.int .i64 c) hr1 hgr))
    have hgl1 : gr < w1.heap.size := Nat.lt_of_lt_of_le hgl hb1.size
    clear hbl1 hr1 hb1
    go_wp2_with fail
    go_ret
    exact ⟨rfl, HS.out, HT.out⟩
end Go.Proofs.Ythgpchjkeidilaa
