/-
  What token of marks answers.
-/
import Derived.Test.YtpmdekhjodhdmaaDoorK17T
namespace Go.Proofs.YtpmdekhjodhdmaaDoor.K17
open Go.RowKit Go.Proofs.YtpmdekhjodhdmaaDoor
open Go.Lib
set_option linter.unusedVariables false
set_option linter.unusedSimpArgs false
set_option maxRecDepth 8000

def TkR (w : World) (R : Except Nat (Tk × Nat)) (e : Ending) (w' : World) : Prop := match R with
  | .error p => e = .returned (.tuple #[.agg zt, .int .i64 (p : Int), .bool false]) ∧ Below w.heap.size w w'
  | .ok (t, n) => ∃ v, e = .returned (.tuple #[tkv t.k ⟨t.x.toArray⟩ ⟨t.t.toArray⟩ v 0, .int .i64 (n : Int), .bool true]) ∧ ARow w' w.heap.size v t.ps ∧ Below w.heap.size w w'
/- what is stored where the token stands -/
theorem tk_st {w cur : World} {k : Int} {x t : ByteArray} {v : Value} {ps : List At} {x0 x1 x2 x3 x4 : Value} (h : Blk cur w.heap.size #[x0, x1, x2, x3, x4] 45) (hb : Below w.heap.size w cur) (hr : ARow cur w.heap.size v ps) :
    Blk (st5 cur w.heap.size (.int .i64 k) (.string x) (.string t) v (.int .i64 0)) w.heap.size #[.int .i64 k, .string x, .string t, v, .int .i64 0] 45 ∧ Below w.heap.size w (st5 cur w.heap.size (.int .i64 k) (.string x) (.string t) v (.int .i64 0)) ∧ ARow (st5 cur w.heap.size (.int .i64 k) (.string x) (.string t) v (.int .i64 0)) w.heap.size v ps :=
  ⟨set5 h _ _ _ _ _, below5 hb (Nat.le_refl _) _ _ _ _ _, hr.set5 h _ _ _ _ _⟩
def TgP (w : World) (n : Nat) (R : Option (Int × List UInt8 × List At × List UInt8)) (e : Ending) (w' : World) : Prop := match R with
  | none => e = .returned (.tuple #[.agg zt, .int .i64 0, .bool false])
  | some (k, x, ps, r) => ∃ v, e = .returned (.tuple #[tkv k ⟨x.toArray⟩ ⟨#[]⟩ v 0, .int .i64 ((n - r.length : Nat) : Int), .bool true]) ∧ ARow w' w.heap.size v ps
theorem tag_tk {w : World} (s : ByteArray) (hm : MX w) (hs : s.size ≤ 1048576) (hv : Vt s.data.toList) {R : Option (Int × List UInt8 × List At × List UInt8)} (hR : tagV s.data.toList = R) :
    Calls Tryd.prog 40 #[.string s] (w.alloc (.cells zt 45)) fun e w' => Blk w' w.heap.size zt 45 ∧ Below w.heap.size w w' ∧ TgP w s.size R e w' := by
  have hal : Below w.heap.size w (w.alloc (.cells zt 45)) := (Below.refl _ _).alloc (Nat.le_refl _) _
  have C := tag_any s _ (hm.below hal) hs hv
  rw [hR] at C
  have hsz : w.heap.size ≤ (w.alloc (.cells zt 45)).heap.size := by simp
  refine C.mono fun e w' h => ?_
  cases R with
  | none => exact ⟨(Blk.new _ _ _).below h.2, hal.trans (h.2.mono hsz), h.1⟩
  | some p =>
    obtain ⟨k, x, ps, r⟩ := p
    obtain ⟨v, h1, h2, h3⟩ := h
    exact ⟨(Blk.new _ _ _).below h3, hal.trans (h3.mono hsz), v, h1, h2.lower hsz⟩
theorem plain_tk {w : World} (u : List UInt8) (hl : u.length ≤ 1048576) (hv : Vt u) {R : Except Nat (List UInt8)} (hR : pl u = R) :
    Calls Tryd.prog 42 #[.string ⟨u.toArray⟩] (w.alloc (.cells zt 45)) fun e w' => Blk w' w.heap.size zt 45 ∧ Below w.heap.size w w' ∧ PlE R e := by
  have hal : Below w.heap.size w (w.alloc (.cells zt 45)) := (Below.refl _ _).alloc (Nat.le_refl _) _
  have C := plain_any ⟨u.toArray⟩ (w.alloc (.cells zt 45)) (by rw [size_m]; exact hl) hv
  rw [mk_l, hR] at C
  refine C.mono fun e w' h => ⟨(Blk.new _ _ _).below h.1, hal.trans (h.1.mono (by simp)), ?_⟩
  have h2 := h.2
  cases R <;> exact h2
set_option maxHeartbeats 4000000 in
theorem token_any (s : ByteArray) (w : World) (hm : MX w) (hs : s.size ≤ 1048576) (hv : Vt s.data.toList) (h0 : 0 < s.size) :
    Calls Tryd.prog 22 #[.string s] w (TkR w (tokV s.data.toList)) := by
  have hs' : (s.size : Int) ≤ 1048576 := by omega
  have h0' : (0 : Int) < (s.size : Int) := by omega
  have hl : s.data.toList.length = s.size := size_l s
  have g0 := get0 s h0
  unfold tokV
  rw [g0]
  by_cases h60 : s[0] = 60
  · rw [if_pos h60]
    have hb60 : ((s[0].toNat : Int) == 60) = true := by rw [h60]; rfl
    have CT := hide (fun R h => tag_tk (w := w) s hm hs hv (R := R) h)
    cases hT : tagV s.data.toList with
    | none =>
      have CT := hide (CT.out _ hT)
      clear hm hv h60 hT g0
      go_enter Tryd.func22, Tryd.ntmps22
      go_wp2_with (first | (go_at_call 40; refine CT.out.mono ?_; rintro e w1 ⟨h1, h2, rfl⟩; have S := hide h1; have HB := hide h2; have r0 := h1.cell 0; have r1 := h1.cell 1; have r2 := h1.cell 2; have r3 := h1.cell 3; have r4 := h1.cell 4; simp at r0 r1 r2 r3 r4; have q0 := h1.frozen 0; have q1 := h1.frozen 1; have q2 := h1.frozen 2; have q3 := h1.frozen 3; have q4 := h1.frozen 4; clear h1 h2))
      obtain ⟨F0, FB, FR⟩ := tk_st (k := 0) (x := ⟨#[]⟩) (t := ⟨#[]⟩) S.out HB.out (ARow.nil w1 w.heap.size)
      unfold st5 at F0 FB FR
      generalize ((((w1.setCell ⟨w.heap.size, 0, none⟩ (.int .i64 0)).setCell ⟨w.heap.size, 1, none⟩ (.string ⟨#[]⟩)).setCell ⟨w.heap.size, 2, none⟩ (.string ⟨#[]⟩)).setCell ⟨w.heap.size, 3, none⟩ (.slice none 0 0)).setCell ⟨w.heap.size, 4, none⟩ (.int .i64 0) = wf at F0 FB FR ⊢
      have g0 := F0.cell 0; have g1 := F0.cell 1; have g2 := F0.cell 2; have g3 := F0.cell 3; have g4 := F0.cell 4
      simp at g0 g1 g2 g3 g4
      exact bodyPost_ret (v := .tuple #[.agg zt, .int .i64 0, .bool false]) (by simp [results, Tryd.results22, go_sem, g0, g1, g2, g3, g4]) rfl ⟨rfl, FB⟩
    | some p =>
      obtain ⟨k, x, ps, r⟩ := p
      have CT := hide (CT.out _ hT)
      obtain ⟨M, hM⟩ : ∃ M : Nat, s.size - r.length = M := ⟨_, rfl⟩
      have HM := hide hM
      change Hid (Calls _ _ _ _ fun e w' => Blk w' w.heap.size zt 45 ∧ Below w.heap.size w w' ∧ ∃ v, e = .returned (.tuple #[tkv k ⟨x.toArray⟩ ⟨#[]⟩ v 0, .int .i64 ((s.size - r.length : Nat) : Int), .bool true]) ∧ ARow w' w.heap.size v ps) at CT
      rw [hM] at CT
      show Calls _ _ _ _ (TkR w (.ok (⟨k, x, [], ps, 0⟩, s.data.toList.length - r.length)))
      rw [hl, hM]
      clear hm hv h60 hT g0 hM
      go_enter Tryd.func22, Tryd.ntmps22
      go_wp2_with (first | (go_at_call 40; refine CT.out.mono ?_; rintro e w1 ⟨h1, h2, v, rfl, h3⟩; obtain ⟨aa, ac, rfl, _⟩ := h3.lst; have HR := hide h3; have S := hide h1; have HB := hide h2; have r0 := h1.cell 0; have r1 := h1.cell 1; have r2 := h1.cell 2; have r3 := h1.cell 3; have r4 := h1.cell 4; simp at r0 r1 r2 r3 r4; have q0 := h1.frozen 0; have q1 := h1.frozen 1; have q2 := h1.frozen 2; have q3 := h1.frozen 3; have q4 := h1.frozen 4; clear h1 h2 h3))
      obtain ⟨F0, FB, FR⟩ := tk_st (k := k) (x := ⟨x.toArray⟩) (t := ⟨#[]⟩) S.out HB.out HR.out
      unfold st5 at F0 FB FR
      generalize ((((w1.setCell ⟨w.heap.size, 0, none⟩ (.int .i64 k)).setCell ⟨w.heap.size, 1, none⟩ (.string ⟨x.toArray⟩)).setCell ⟨w.heap.size, 2, none⟩ (.string ⟨#[]⟩)).setCell ⟨w.heap.size, 3, none⟩ (.slice aa ps.length ac)).setCell ⟨w.heap.size, 4, none⟩ (.int .i64 0) = wf at F0 FB FR ⊢
      have g0 := F0.cell 0; have g1 := F0.cell 1; have g2 := F0.cell 2; have g3 := F0.cell 3; have g4 := F0.cell 4
      simp at g0 g1 g2 g3 g4
      exact bodyPost_ret (v := .tuple #[tkv k ⟨x.toArray⟩ ⟨#[]⟩ (.slice aa ps.length ac) 0, .int .i64 (M : Int), .bool true]) (by simp [results, Tryd.results22, go_sem, g0, g1, g2, g3, g4]) rfl ⟨_, rfl, FR, FB⟩
  · rw [if_neg h60]
    have hb60 : ((s[0].toNat : Int) == 60) = false := by
      rw [beq_eq_false_iff_ne]; intro h; apply h60; apply UInt8.toNat_inj.1; show s[0].toNat = 60; omega
    have hul := upto_le 60 s.data.toList
    have hvu := (vt_split (b := 60) (by decide) hv).1
    have CP := hide (fun R h => plain_tk (w := w) (upto 60 s.data.toList) (by omega) hvu (R := R) h)
    have CI := hide (fun cur => idxb_as s.data.toList cur)
    have hx : s.extract 0 (upto 60 s.data.toList).length = ⟨(upto 60 s.data.toList).toArray⟩ := by
      rw [str_eq, Lib.extract_data, mk_l]; simp [upto_take]
    have hall : 60 ∉ s.data.toList → (upto 60 s.data.toList).length = s.size := fun h => by rw [upto_all h, hl]
    have heq : (⟨s.data.toList.toArray⟩ : ByteArray) = s := by rw [str_eq]
    rw [heq] at CI
    obtain ⟨u, hu⟩ : ∃ u, upto 60 s.data.toList = u := ⟨_, rfl⟩
    rw [hu] at hul hvu CP CI hx hall ⊢
    have hN : (u.length : Int) ≤ (s.size : Int) := by omega
    have hN0 : (0 : Int) ≤ (u.length : Int) := by omega
    obtain ⟨U, hU⟩ : ∃ U : ByteArray, (⟨u.toArray⟩ : ByteArray) = U := ⟨_, rfl⟩
    rw [hU] at hx CP
    cases hp : pl u with
    | error p =>
      have CP := hide (CP.out _ hp)
      by_cases hm60 : 60 ∈ s.data.toList
      · simp only [if_pos hm60] at CI
        clear hm hv h60 hp g0 hvu hall heq hu hU hm60 hl
        go_enter Tryd.func22, Tryd.ntmps22
        go_wp2_with (first | (go_at_call 41; refine (CI.out _).mono ?_; rintro e w1 ⟨rfl, hw⟩; subst hw) | (go_at_call 42; refine CP.out.mono ?_; rintro e w1 ⟨h1, h2, rfl⟩; have S := hide h1; have HB := hide h2; have r0 := h1.cell 0; have r1 := h1.cell 1; have r2 := h1.cell 2; have r3 := h1.cell 3; have r4 := h1.cell 4; simp at r0 r1 r2 r3 r4; have q0 := h1.frozen 0; have q1 := h1.frozen 1; have q2 := h1.frozen 2; have q3 := h1.frozen 3; have q4 := h1.frozen 4; clear h1 h2))
        obtain ⟨F0, FB, FR⟩ := tk_st (k := 0) (x := ⟨#[]⟩) (t := ⟨#[]⟩) S.out HB.out (ARow.nil w1 w.heap.size)
        unfold st5 at F0 FB FR
        generalize ((((w1.setCell ⟨w.heap.size, 0, none⟩ (.int .i64 0)).setCell ⟨w.heap.size, 1, none⟩ (.string ⟨#[]⟩)).setCell ⟨w.heap.size, 2, none⟩ (.string ⟨#[]⟩)).setCell ⟨w.heap.size, 3, none⟩ (.slice none 0 0)).setCell ⟨w.heap.size, 4, none⟩ (.int .i64 0) = wf at F0 FB FR ⊢
        have g0 := F0.cell 0; have g1 := F0.cell 1; have g2 := F0.cell 2; have g3 := F0.cell 3; have g4 := F0.cell 4
        simp at g0 g1 g2 g3 g4
        exact bodyPost_ret (v := .tuple #[.agg zt, .int .i64 (p : Int), .bool false]) (by simp [results, Tryd.results22, go_sem, g0, g1, g2, g3, g4]) rfl ⟨rfl, FB⟩
      · simp only [if_neg hm60] at CI
        have hus := hall hm60
        rw [hus] at hx
        clear hm hv h60 hp g0 hvu hall heq hu hU hm60 hl
        go_enter Tryd.func22, Tryd.ntmps22
        go_wp2_with (first | (go_at_call 41; refine (CI.out _).mono ?_; rintro e w1 ⟨rfl, hw⟩; subst hw) | (go_at_call 42; refine CP.out.mono ?_; rintro e w1 ⟨h1, h2, rfl⟩; have S := hide h1; have HB := hide h2; have r0 := h1.cell 0; have r1 := h1.cell 1; have r2 := h1.cell 2; have r3 := h1.cell 3; have r4 := h1.cell 4; simp at r0 r1 r2 r3 r4; have q0 := h1.frozen 0; have q1 := h1.frozen 1; have q2 := h1.frozen 2; have q3 := h1.frozen 3; have q4 := h1.frozen 4; clear h1 h2))
        obtain ⟨F0, FB, FR⟩ := tk_st (k := 0) (x := ⟨#[]⟩) (t := ⟨#[]⟩) S.out HB.out (ARow.nil w1 w.heap.size)
        unfold st5 at F0 FB FR
        generalize ((((w1.setCell ⟨w.heap.size, 0, none⟩ (.int .i64 0)).setCell ⟨w.heap.size, 1, none⟩ (.string ⟨#[]⟩)).setCell ⟨w.heap.size, 2, none⟩ (.string ⟨#[]⟩)).setCell ⟨w.heap.size, 3, none⟩ (.slice none 0 0)).setCell ⟨w.heap.size, 4, none⟩ (.int .i64 0) = wf at F0 FB FR ⊢
        have g0 := F0.cell 0; have g1 := F0.cell 1; have g2 := F0.cell 2; have g3 := F0.cell 3; have g4 := F0.cell 4
        simp at g0 g1 g2 g3 g4
        exact bodyPost_ret (v := .tuple #[.agg zt, .int .i64 (p : Int), .bool false]) (by simp [results, Tryd.results22, go_sem, g0, g1, g2, g3, g4]) rfl ⟨rfl, FB⟩
    | ok t =>
      have CP := hide (CP.out _ hp)
      by_cases hm60 : 60 ∈ s.data.toList
      · simp only [if_pos hm60] at CI
        clear hm hv h60 hp g0 hvu hall heq hu hU hm60 hl
        go_enter Tryd.func22, Tryd.ntmps22
        go_wp2_with (first | (go_at_call 41; refine (CI.out _).mono ?_; rintro e w1 ⟨rfl, hw⟩; subst hw) | (go_at_call 42; refine CP.out.mono ?_; rintro e w1 ⟨h1, h2, rfl⟩; have S := hide h1; have HB := hide h2; have r0 := h1.cell 0; have r1 := h1.cell 1; have r2 := h1.cell 2; have r3 := h1.cell 3; have r4 := h1.cell 4; simp at r0 r1 r2 r3 r4; have q0 := h1.frozen 0; have q1 := h1.frozen 1; have q2 := h1.frozen 2; have q3 := h1.frozen 3; have q4 := h1.frozen 4; clear h1 h2))
        obtain ⟨F0, FB, FR⟩ := tk_st (k := 4) (x := ⟨#[]⟩) (t := ⟨t.toArray⟩) S.out HB.out (ARow.nil w1 w.heap.size)
        unfold st5 at F0 FB FR
        generalize ((((w1.setCell ⟨w.heap.size, 0, none⟩ (.int .i64 4)).setCell ⟨w.heap.size, 1, none⟩ (.string ⟨#[]⟩)).setCell ⟨w.heap.size, 2, none⟩ (.string ⟨t.toArray⟩)).setCell ⟨w.heap.size, 3, none⟩ (.slice none 0 0)).setCell ⟨w.heap.size, 4, none⟩ (.int .i64 0) = wf at F0 FB FR ⊢
        have g0 := F0.cell 0; have g1 := F0.cell 1; have g2 := F0.cell 2; have g3 := F0.cell 3; have g4 := F0.cell 4
        simp at g0 g1 g2 g3 g4
        exact bodyPost_ret (v := .tuple #[tkv 4 ⟨#[]⟩ ⟨t.toArray⟩ (.slice none 0 0) 0, .int .i64 (u.length : Int), .bool true]) (by simp [results, Tryd.results22, go_sem, g0, g1, g2, g3, g4]) rfl ⟨_, rfl, FR, FB⟩
      · simp only [if_neg hm60] at CI
        have hus := hall hm60
        rw [hus] at hx
        clear hm hv h60 hp g0 hvu hall heq hu hU hm60 hl
        go_enter Tryd.func22, Tryd.ntmps22
        go_wp2_with (first | (go_at_call 41; refine (CI.out _).mono ?_; rintro e w1 ⟨rfl, hw⟩; subst hw) | (go_at_call 42; refine CP.out.mono ?_; rintro e w1 ⟨h1, h2, rfl⟩; have S := hide h1; have HB := hide h2; have r0 := h1.cell 0; have r1 := h1.cell 1; have r2 := h1.cell 2; have r3 := h1.cell 3; have r4 := h1.cell 4; simp at r0 r1 r2 r3 r4; have q0 := h1.frozen 0; have q1 := h1.frozen 1; have q2 := h1.frozen 2; have q3 := h1.frozen 3; have q4 := h1.frozen 4; clear h1 h2))
        obtain ⟨F0, FB, FR⟩ := tk_st (k := 4) (x := ⟨#[]⟩) (t := ⟨t.toArray⟩) S.out HB.out (ARow.nil w1 w.heap.size)
        unfold st5 at F0 FB FR
        generalize ((((w1.setCell ⟨w.heap.size, 0, none⟩ (.int .i64 4)).setCell ⟨w.heap.size, 1, none⟩ (.string ⟨#[]⟩)).setCell ⟨w.heap.size, 2, none⟩ (.string ⟨t.toArray⟩)).setCell ⟨w.heap.size, 3, none⟩ (.slice none 0 0)).setCell ⟨w.heap.size, 4, none⟩ (.int .i64 0) = wf at F0 FB FR ⊢
        have g0 := F0.cell 0; have g1 := F0.cell 1; have g2 := F0.cell 2; have g3 := F0.cell 3; have g4 := F0.cell 4
        simp at g0 g1 g2 g3 g4
        exact bodyPost_ret (v := .tuple #[tkv 4 ⟨#[]⟩ ⟨t.toArray⟩ (.slice none 0 0) 0, .int .i64 (s.size : Int), .bool true]) (by simp [results, Tryd.results22, go_sem, g0, g1, g2, g3, g4]) rfl ⟨_, by rw [hus], FR, FB⟩
end Go.Proofs.YtpmdekhjodhdmaaDoor.K17
