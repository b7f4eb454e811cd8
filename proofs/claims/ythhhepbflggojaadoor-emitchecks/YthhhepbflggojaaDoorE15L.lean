/-
  What the writer's line answers.
-/
import Derived.Test.YthhhepbflggojaaDoorE15W
import Derived.Deep.RegionLaw
import Derived.Deep.CutRange
namespace Go.Proofs.YthhhepbflggojaaDoor.E15
open Go.RowKit Go.Deep
set_option linter.unusedVariables false
set_option linter.unusedSimpArgs false
set_option maxRecDepth 8000

theorem step_append_run {P : Program} (w : World) {ops : Array Oper} {o : Oper} {a : Act} {K : Act → World → Prop} {Q : Exit → Act → World → Prop} {E : Prop} (hgd : o.guard = none) (s x : Operand) (t tn : TypeId)
    (ho : o.op = .call { callee := .builtin .append, args := #[s, x], argTypes := #[t, tn] }) (vs vx : Value) (hs : a.eval s = vs) (hx : a.eval x = vx)
    (v' : Value) (w' : World) (hr : (Builtin.append_ #[t, tn] o.type #[vs, vx]).run P w = .ok v' w') (h : K (a.put o.dst v') w') :
    if Region.wanted o (yielded ops a.tmps) = true then Oper.wp P o a w K Q else E := by
  rw [if_pos (by simp [Region.wanted, hgd])]
  exact Lib.wp_append_run w s x t tn ho vs vx hs hx v' w' hr h
theorem wst_end {w w2 : World} {B b : Nat} {v v' : Value} {F ys : List UInt8} (hbk : Blk w b #[v] 45) (hb : B ≤ b) (hB : B ≤ w.heap.size) (hr : BRow w2 B v' ys) (hk : KB B w w2) :
    Blk w2 b #[v] 45 ∧ WSt (w2.setCell ⟨b, 0, none⟩ v') B b ys ∧ PK B b w (w2.setCell ⟨b, 0, none⟩ v') := by
  have hbk2 : Blk w2 b #[v] 45 := hbk.nb hk.nb tw_ne
  refine ⟨hbk2, ⟨⟨v', ?_, brow_ne hr hbk2 tw_ne 0 _⟩, hb, ?_⟩, (PK.kb hk).trans (PK.set hb 0 _)⟩
  · exact hbk2.set 0 v'
  · simp [World.setCell]; exact Nat.le_trans hB hk.size
/- a text is put behind -/
theorem wst_s {w : World} {B b : Nat} {F : List UInt8} (s : ByteArray) (h : WSt w B b F) (hl : F.length + s.size ≤ 140737488355328) (a : Option Addr) (c : Nat) (hv : w.cell? ⟨b, 0, none⟩ = some (.slice a F.length c)) :
    ∃ a' c' w2, (Builtin.append_ #[43, 9] 43 #[.slice a F.length c, .string s]).run Tryd.prog w = .ok (.slice a' (F.length + s.size) c') w2 ∧ Blk w2 b #[.slice a F.length c] 45 ∧ WSt (w2.setCell ⟨b, 0, none⟩ (.slice a' (F.length + s.size) c')) B b (F ++ s.data.toList) ∧ PK B b w (w2.setCell ⟨b, 0, none⟩ (.slice a' (F.length + s.size) c')) := by
  obtain ⟨⟨v, hbk, hrow⟩, hb, hB⟩ := h
  obtain rfl : v = .slice a F.length c := by
    have := hbk.cell 0
    rw [hv] at this
    simpa using this.symm
  obtain ⟨v', w2, hr, hrow2, hkb⟩ := app_s3 s hrow hB (by omega)
  obtain ⟨wa, wc, rfl⟩ := hrow2.shape
  rw [List.length_append, ← Lib.size_eq] at hr
  have := wst_end (F := F) hbk hb hB hrow2 hkb
  rw [List.length_append, ← Lib.size_eq] at this
  exact ⟨wa, wc, w2, hr, this⟩
/- bytes are put behind -/
theorem wst_b {w : World} {B b : Nat} {F : List UInt8} (news : List UInt8) (h : WSt w B b F) (hm : 0 < news.length) (hl : F.length + news.length ≤ 140737488355328) (a : Option Addr) (c : Nat) (hv : w.cell? ⟨b, 0, none⟩ = some (.slice a F.length c)) (H : Nat) (hH : w.heap.size = H) :
    ∃ a' c' w2, (Builtin.append_ #[43, 43] 43 #[.slice a F.length c, .slice (some ⟨H, 0, none⟩) news.length news.length]).run Tryd.prog (w.alloc (.cells (news.map bcell).toArray 5)) = .ok (.slice a' (F.length + news.length) c') w2 ∧ Blk w2 b #[.slice a F.length c] 45 ∧ WSt (w2.setCell ⟨b, 0, none⟩ (.slice a' (F.length + news.length) c')) B b (F ++ news) ∧ PK B b w (w2.setCell ⟨b, 0, none⟩ (.slice a' (F.length + news.length) c')) := by
  obtain ⟨⟨v, hbk, hrow⟩, hb, hB⟩ := h
  obtain rfl : v = .slice a F.length c := by
    have := hbk.cell 0
    rw [hv] at this
    simpa using this.symm
  obtain ⟨v', w2, hr, hrow2, hkb⟩ := app_b3 news hrow hB hm (by omega) H hH
  obtain ⟨wa, wc, rfl⟩ := hrow2.shape
  rw [List.length_append] at hr
  have := wst_end (F := F) hbk hb hB hrow2 hkb
  rw [List.length_append] at this
  exact ⟨wa, wc, w2, hr, this⟩
theorem WSt.val {w : World} {B b : Nat} {F : List UInt8} (h : WSt w B b F) : ∃ a c, w.cell? ⟨b, 0, none⟩ = some (.slice a F.length c) := by
  obtain ⟨⟨v, hbk, hrow⟩, hb, hB⟩ := h
  obtain ⟨a, c, rfl⟩ := hrow.shape
  exact ⟨a, c, by simpa using hbk.cell 0⟩
set_option maxHeartbeats 4000000 in
theorem line_any (B b : Nat) (F : List UInt8) (sb so n c : Nat) (xs : List ByteArray) (w : World) (h : WSt w B b F) (hs : SL w sb so xs) (hn : xs.length = n) (hN : n ≤ 1000) (hcap : n ≤ c) (hl : F.length + (joinT xs).length ≤ 1000000000) :
    Calls Tryd.prog 46 #[.pointer (some ⟨b, 0, none⟩), .slice (some ⟨sb, so, none⟩) n c] w fun e w' => e = .returned (.tuple #[]) ∧ WSt w' B b (F ++ joinT xs ++ [10]) ∧ PK B b w w' := by
  have CJ := hide (fun (u : World) (hu : Below w.heap.size w u) => join_any sb so c xs u (hs.below hu) (by omega) (by omega) (by omega))
  rw [hn] at CJ
  obtain ⟨a, ac, hv⟩ := h.val
  obtain ⟨J, hJ⟩ : ∃ J : ByteArray, ⟨(joinT xs).toArray⟩ = J := ⟨_, rfl⟩
  have hJl : J.data.toList = joinT xs := by rw [← hJ]
  have hJs : J.size = (joinT xs).length := by rw [Lib.size_eq, hJl]
  rw [hJ] at CJ
  rw [← hJl]
  rw [← hJs] at hl
  obtain ⟨q, hq⟩ : ∃ q, F.length = q := ⟨_, rfl⟩
  have HA : Hid (∀ wz, Below w.heap.size w wz → wz.cell? ⟨b, 0, none⟩ = some (.slice a q ac) ∧ b < wz.heap.size ∧ ∃ a' c' w4, (Builtin.append_ #[43, 9] 43 #[.slice a q ac, .string J]).run Tryd.prog wz = .ok (.slice a' (q + J.size) c') w4 ∧ w4.cell? ⟨b, 0, none⟩ = some (.slice a q ac) ∧ w4.frozen? ⟨b, 0, none⟩ = false ∧ b < w4.heap.size ∧ WSt (w4.setCell ⟨b, 0, none⟩ (.slice a' (q + J.size) c')) B b (F ++ J.data.toList) ∧ PK B b w (w4.setCell ⟨b, 0, none⟩ (.slice a' (q + J.size) c'))) := hide fun wz hbz => by
    have hwz := h.below hbz
    have q9 : wz.cell? ⟨b, 0, none⟩ = some (.slice a F.length ac) := by rw [hbz.cell (p := ⟨b, 0, none⟩) h.lt]; exact hv
    have hap := wst_s J hwz (by omega) a ac q9
    rw [hq] at hap q9
    obtain ⟨a', c', w4, hr, hk4, hw4, hp4⟩ := hap
    exact ⟨q9, hwz.lt, a', c', w4, hr, by simpa using hk4.cell 0, hk4.frozen 0, hk4.lt, hw4, (PK.of_below hbz h.hB).trans hp4⟩
  have HQL := hide hq
  have HW := hide h
  have blt := h.lt
  have HX := hide (Below.refl w.heap.size w)
  have HLN := hide hl
  rw [hq] at hv
  clear h hs hn hN hcap hJ hJl hJs hl hq
  go_enter Tryd.func46, Tryd.ntmps46
  go_wp2_with fail
  go_region_law ((first | (go_simp; go_at_call 53; refine (CJ.out _ (by repeat (first | exact HX.out | refine bdr ?_ | refine below_drewN ?_ _))).mono ?_; rintro e wz ⟨rfl, hz⟩; obtain ⟨q9, blz, a', c', w4, hr, h0, h1, h2, h3, h4⟩ := HA.out wz (below_t5 (by repeat (first | exact HX.out | refine bdr ?_ | refine below_drewN ?_ _)) hz); have HR := hide hr; have HQ := hide h0; have HZ := hide h1; have HT := hide h2; have HW4 := hide h3; have HP4 := hide h4; clear hr h0 h1 h2 h3 h4 hz) | (refine step_append_run _ (by rfl) _ _ _ _ rfl _ _ (by rfl) (by rfl) _ _ HR.out ?_; clear q9; have q9 := HQ.out; have z9 := HZ.out; have t9 := HT.out)))
  all_goals (
    obtain ⟨y, hy⟩ : ∃ y, q + J.size = y := ⟨_, rfl⟩
    rw [hy] at HW4 HP4 ⊢
    generalize w4.setCell ⟨b, 0, none⟩ (.slice a' y c') = w5 at HW4 HP4 ⊢
    have hly : (F ++ J.data.toList).length = y := by rw [List.length_append, HQL.out, ← hy, Lib.size_eq]
    obtain ⟨a5, c5, hv5⟩ := HW4.out.val
    obtain ⟨a6, c6, w6, hr6, hk6, hw6, hp6⟩ := wst_b [10] HW4.out (by simp) (by rw [hly, ← hy]; have := HLN.out; have := HQL.out; simp; omega) a5 c5 hv5 w5.heap.size rfl
    rw [hly] at hv5 hr6 hk6 hw6 hp6
    have HR6 := hide hr6
    have HW6 := hide hw6
    have HP6 := hide (HP4.out.trans hp6)
    have u0 : w6.cell? ⟨b, 0, none⟩ = some (.slice a5 y c5) := by simpa using hk6.cell 0
    have u1 := hk6.frozen 0
    have u2 := hk6.lt
    have u3' := HW4.out.lt
    clear hr6 hw6 hp6 hk6 HR HQ HZ HT HA q9 z9 t9 hy hly HW4 HP4
    go_wp2_with (at_builtin; refine Lib.wpList_append_run _ rfl _ _ _ _ rfl _ _ rfl rfl _ _ HR6.out ?_)
    go_end0
    exact ⟨rfl, HW6.out, HP6.out⟩)
end Go.Proofs.YthhhepbflggojaaDoor.E15
