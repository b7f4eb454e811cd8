/-
  Joined: K17U, K17V, K17X, K17Pp, K17Y.
-/
import Derived.BigQuiet
import Derived.Deep.QuietTactic
import Derived.Test.YtpmdekhjodhdmaaDoorR10
import Derived.Test.YtpmdekhjodhdmaaDoorR15
namespace Go.Proofs.YtpmdekhjodhdmaaDoor.K17
open Go.RowKit Go.Proofs.YtpmdekhjodhdmaaDoor
open Go.Lib
set_option linter.unusedVariables false
set_option linter.unusedSimpArgs false
set_option maxRecDepth 8000
def TkR (w : World) (R : Except Nat (Tk × Nat)) (e : Ending) (w' : World) : Prop := match R with
  | .error p => e = .returned (.tuple #[.agg zt, .int .i64 (p : Int), .bool false]) ∧ Below w.heap.size w w'
  | .ok (t, n) => ∃ v, e = .returned (.tuple #[tkv t.k ⟨t.x.toArray⟩ ⟨t.t.toArray⟩ v 0, .int .i64 (n : Int), .bool true]) ∧ ARow w' w.heap.size v t.ps ∧ Below w.heap.size w w'
theorem tk_st {w cur : World} {k : Int} {x t : ByteArray} {v : Value} {ps : List At} {x0 x1 x2 x3 x4 : Value} (h : Blk cur w.heap.size #[x0, x1, x2, x3, x4] 45) (hb : Below w.heap.size w cur) (hr : ARow cur w.heap.size v ps) :
    Blk (st5 cur w.heap.size (.int .i64 k) (.string x) (.string t) v (.int .i64 0)) w.heap.size #[.int .i64 k, .string x, .string t, v, .int .i64 0] 45 ∧ Below w.heap.size w (st5 cur w.heap.size (.int .i64 k) (.string x) (.string t) v (.int .i64 0)) ∧ ARow (st5 cur w.heap.size (.int .i64 k) (.string x) (.string t) v (.int .i64 0)) w.heap.size v ps :=
  ⟨set5 h _ _ _ _ _, below5 hb (Nat.le_refl _) _ _ _ _ _, hr.set5 h _ _ _ _ _⟩
def TgP (w : World) (n : Nat) (R : Option (Int × List UInt8 × List At × List UInt8)) (e : Ending) (w' : World) : Prop := match R with
  | none => e = .returned (.tuple #[.agg zt, .int .i64 0, .bool false])
  | some (k, x, ps, r) => ∃ v, e = .returned (.tuple #[tkv k ⟨x.toArray⟩ ⟨#[]⟩ v 0, .int .i64 ((n - r.length : Nat) : Int), .bool true]) ∧ ARow w' w.heap.size v ps
theorem tag_tk {w : World} (s : ByteArray) (hm : MX w) (hs : s.size ≤ 1048576) (hv : Vt s.data.toList) {R : Option (Int × List UInt8 × List At × List UInt8)} (hR : tagV s.data.toList = R) :
    Calls Tryd.prog 40 #[.string s] (w.alloc (.cells zt 45)) fun e w' => Blk w' w.heap.size zt 45 ∧ Below w.heap.size w w' ∧ TgP w s.size R e w' := by
  have hal : Below w.heap.size w (w.alloc (.cells zt 45)) := (Below.refl _ _).alloc (Nat.le_refl _) _
  have C := tag_any s _ (hm.below hal) hs hv
  rw [hR] at C
  have hsz : w.heap.size ≤ (w.alloc (.cells zt 45)).heap.size := by simp
  refine C.mono fun e w' h => ?_
  cases R with
  | none => exact ⟨(Blk.new _ _ _).below h.2, hal.trans (h.2.mono hsz), h.1⟩
  | some p =>
    obtain ⟨k, x, ps, r⟩ := p
    obtain ⟨v, h1, h2, h3⟩ := h
    exact ⟨(Blk.new _ _ _).below h3, hal.trans (h3.mono hsz), v, h1, h2.lower hsz⟩
theorem plain_tk {w : World} (u : List UInt8) (hl : u.length ≤ 1048576) (hv : Vt u) {R : Except Nat (List UInt8)} (hR : pl u = R) :
    Calls Tryd.prog 42 #[.string ⟨u.toArray⟩] (w.alloc (.cells zt 45)) fun e w' => Blk w' w.heap.size zt 45 ∧ Below w.heap.size w w' ∧ PlE R e := by
  have hal : Below w.heap.size w (w.alloc (.cells zt 45)) := (Below.refl _ _).alloc (Nat.le_refl _) _
  have C := plain_any ⟨u.toArray⟩ (w.alloc (.cells zt 45)) (by rw [size_m]; exact hl) hv
  rw [mk_l, hR] at C
  refine C.mono fun e w' h => ⟨(Blk.new _ _ _).below h.1, hal.trans (h.1.mono (by simp)), ?_⟩
  have h2 := h.2
  cases R <;> exact h2
set_option maxHeartbeats 4000000 in
theorem token_any (s : ByteArray) (w : World) (hm : MX w) (hs : s.size ≤ 1048576) (hv : Vt s.data.toList) (h0 : 0 < s.size) :
    Calls Tryd.prog 22 #[.string s] w (TkR w (tokV s.data.toList)) := by
  have hs' : (s.size : Int) ≤ 1048576 := by omega
  have h0' : (0 : Int) < (s.size : Int) := by omega
  have hl : s.data.toList.length = s.size := size_l s
  have g0 := get0 s h0
  unfold tokV
  rw [g0]
  by_cases h60 : s[0] = 60
  · rw [if_pos h60]
    have hb60 : ((s[0].toNat : Int) == 60) = true := by rw [h60]; rfl
    have CT := hide (fun R h => tag_tk (w := w) s hm hs hv (R := R) h)
    cases hT : tagV s.data.toList with
    | none =>
      have CT := hide (CT.out _ hT)
      clear hm hv h60 hT g0
      go_enter Tryd.func22, Tryd.ntmps22
      go_wp2_with (first | (go_at_call 40; refine CT.out.mono ?_; rintro e w1 ⟨h1, h2, rfl⟩; have S := hide h1; have HB := hide h2; have r0 := h1.cell 0; have r1 := h1.cell 1; have r2 := h1.cell 2; have r3 := h1.cell 3; have r4 := h1.cell 4; simp at r0 r1 r2 r3 r4; have q0 := h1.frozen 0; have q1 := h1.frozen 1; have q2 := h1.frozen 2; have q3 := h1.frozen 3; have q4 := h1.frozen 4; clear h1 h2))
      obtain ⟨F0, FB, FR⟩ := tk_st (k := 0) (x := ⟨#[]⟩) (t := ⟨#[]⟩) S.out HB.out (ARow.nil w1 w.heap.size)
      unfold st5 at F0 FB FR
      generalize ((((w1.setCell ⟨w.heap.size, 0, none⟩ (.int .i64 0)).setCell ⟨w.heap.size, 1, none⟩ (.string ⟨#[]⟩)).setCell ⟨w.heap.size, 2, none⟩ (.string ⟨#[]⟩)).setCell ⟨w.heap.size, 3, none⟩ (.slice none 0 0)).setCell ⟨w.heap.size, 4, none⟩ (.int .i64 0) = wf at F0 FB FR ⊢
      have g0 := F0.cell 0; have g1 := F0.cell 1; have g2 := F0.cell 2; have g3 := F0.cell 3; have g4 := F0.cell 4
      simp at g0 g1 g2 g3 g4
      exact bodyPost_ret (v := .tuple #[.agg zt, .int .i64 0, .bool false]) (by simp [results, Tryd.results22, go_sem, g0, g1, g2, g3, g4]) rfl ⟨rfl, FB⟩
    | some p =>
      obtain ⟨k, x, ps, r⟩ := p
      have CT := hide (CT.out _ hT)
      obtain ⟨M, hM⟩ : ∃ M : Nat, s.size - r.length = M := ⟨_, rfl⟩
      have HM := hide hM
      change Hid (Calls _ _ _ _ fun e w' => Blk w' w.heap.size zt 45 ∧ Below w.heap.size w w' ∧ ∃ v, e = .returned (.tuple #[tkv k ⟨x.toArray⟩ ⟨#[]⟩ v 0, .int .i64 ((s.size - r.length : Nat) : Int), .bool true]) ∧ ARow w' w.heap.size v ps) at CT
      rw [hM] at CT
      show Calls _ _ _ _ (TkR w (.ok (⟨k, x, [], ps, 0⟩, s.data.toList.length - r.length)))
      rw [hl, hM]
      clear hm hv h60 hT g0 hM
      go_enter Tryd.func22, Tryd.ntmps22
      go_wp2_with (first | (go_at_call 40; refine CT.out.mono ?_; rintro e w1 ⟨h1, h2, v, rfl, h3⟩; obtain ⟨aa, ac, rfl, _⟩ := h3.lst; have HR := hide h3; have S := hide h1; have HB := hide h2; have r0 := h1.cell 0; have r1 := h1.cell 1; have r2 := h1.cell 2; have r3 := h1.cell 3; have r4 := h1.cell 4; simp at r0 r1 r2 r3 r4; have q0 := h1.frozen 0; have q1 := h1.frozen 1; have q2 := h1.frozen 2; have q3 := h1.frozen 3; have q4 := h1.frozen 4; clear h1 h2 h3))
      obtain ⟨F0, FB, FR⟩ := tk_st (k := k) (x := ⟨x.toArray⟩) (t := ⟨#[]⟩) S.out HB.out HR.out
      unfold st5 at F0 FB FR
      generalize ((((w1.setCell ⟨w.heap.size, 0, none⟩ (.int .i64 k)).setCell ⟨w.heap.size, 1, none⟩ (.string ⟨x.toArray⟩)).setCell ⟨w.heap.size, 2, none⟩ (.string ⟨#[]⟩)).setCell ⟨w.heap.size, 3, none⟩ (.slice aa ps.length ac)).setCell ⟨w.heap.size, 4, none⟩ (.int .i64 0) = wf at F0 FB FR ⊢
      have g0 := F0.cell 0; have g1 := F0.cell 1; have g2 := F0.cell 2; have g3 := F0.cell 3; have g4 := F0.cell 4
      simp at g0 g1 g2 g3 g4
      exact bodyPost_ret (v := .tuple #[tkv k ⟨x.toArray⟩ ⟨#[]⟩ (.slice aa ps.length ac) 0, .int .i64 (M : Int), .bool true]) (by simp [results, Tryd.results22, go_sem, g0, g1, g2, g3, g4]) rfl ⟨_, rfl, FR, FB⟩
  · rw [if_neg h60]
    have hb60 : ((s[0].toNat : Int) == 60) = false := by
      rw [beq_eq_false_iff_ne]; intro h; apply h60; apply UInt8.toNat_inj.1; show s[0].toNat = 60; omega
    have hul := upto_le 60 s.data.toList
    have hvu := (vt_split (b := 60) (by decide) hv).1
    have CP := hide (fun R h => plain_tk (w := w) (upto 60 s.data.toList) (by omega) hvu (R := R) h)
    have CI := hide (fun cur => idxb_as s.data.toList cur)
    have hx : s.extract 0 (upto 60 s.data.toList).length = ⟨(upto 60 s.data.toList).toArray⟩ := by
      rw [str_eq, Lib.extract_data, mk_l]; simp [upto_take]
    have hall : 60 ∉ s.data.toList → (upto 60 s.data.toList).length = s.size := fun h => by rw [upto_all h, hl]
    have heq : (⟨s.data.toList.toArray⟩ : ByteArray) = s := by rw [str_eq]
    rw [heq] at CI
    obtain ⟨u, hu⟩ : ∃ u, upto 60 s.data.toList = u := ⟨_, rfl⟩
    rw [hu] at hul hvu CP CI hx hall ⊢
    have hN : (u.length : Int) ≤ (s.size : Int) := by omega
    have hN0 : (0 : Int) ≤ (u.length : Int) := by omega
    obtain ⟨U, hU⟩ : ∃ U : ByteArray, (⟨u.toArray⟩ : ByteArray) = U := ⟨_, rfl⟩
    rw [hU] at hx CP
    cases hp : pl u with
    | error p =>
      have CP := hide (CP.out _ hp)
      by_cases hm60 : 60 ∈ s.data.toList
      · simp only [if_pos hm60] at CI
        clear hm hv h60 hp g0 hvu hall heq hu hU hm60 hl
        go_enter Tryd.func22, Tryd.ntmps22
        go_wp2_with (first | (go_at_call 41; refine (CI.out _).mono ?_; rintro e w1 ⟨rfl, hw⟩; subst hw) | (go_at_call 42; refine CP.out.mono ?_; rintro e w1 ⟨h1, h2, rfl⟩; have S := hide h1; have HB := hide h2; have r0 := h1.cell 0; have r1 := h1.cell 1; have r2 := h1.cell 2; have r3 := h1.cell 3; have r4 := h1.cell 4; simp at r0 r1 r2 r3 r4; have q0 := h1.frozen 0; have q1 := h1.frozen 1; have q2 := h1.frozen 2; have q3 := h1.frozen 3; have q4 := h1.frozen 4; clear h1 h2))
        obtain ⟨F0, FB, FR⟩ := tk_st (k := 0) (x := ⟨#[]⟩) (t := ⟨#[]⟩) S.out HB.out (ARow.nil w1 w.heap.size)
        unfold st5 at F0 FB FR
        generalize ((((w1.setCell ⟨w.heap.size, 0, none⟩ (.int .i64 0)).setCell ⟨w.heap.size, 1, none⟩ (.string ⟨#[]⟩)).setCell ⟨w.heap.size, 2, none⟩ (.string ⟨#[]⟩)).setCell ⟨w.heap.size, 3, none⟩ (.slice none 0 0)).setCell ⟨w.heap.size, 4, none⟩ (.int .i64 0) = wf at F0 FB FR ⊢
        have g0 := F0.cell 0; have g1 := F0.cell 1; have g2 := F0.cell 2; have g3 := F0.cell 3; have g4 := F0.cell 4
        simp at g0 g1 g2 g3 g4
        exact bodyPost_ret (v := .tuple #[.agg zt, .int .i64 (p : Int), .bool false]) (by simp [results, Tryd.results22, go_sem, g0, g1, g2, g3, g4]) rfl ⟨rfl, FB⟩
      · simp only [if_neg hm60] at CI
        have hus := hall hm60
        rw [hus] at hx
        clear hm hv h60 hp g0 hvu hall heq hu hU hm60 hl
        go_enter Tryd.func22, Tryd.ntmps22
        go_wp2_with (first | (go_at_call 41; refine (CI.out _).mono ?_; rintro e w1 ⟨rfl, hw⟩; subst hw) | (go_at_call 42; refine CP.out.mono ?_; rintro e w1 ⟨h1, h2, rfl⟩; have S := hide h1; have HB := hide h2; have r0 := h1.cell 0; have r1 := h1.cell 1; have r2 := h1.cell 2; have r3 := h1.cell 3; have r4 := h1.cell 4; simp at r0 r1 r2 r3 r4; have q0 := h1.frozen 0; have q1 := h1.frozen 1; have q2 := h1.frozen 2; have q3 := h1.frozen 3; have q4 := h1.frozen 4; clear h1 h2))
        obtain ⟨F0, FB, FR⟩ := tk_st (k := 0) (x := ⟨#[]⟩) (t := ⟨#[]⟩) S.out HB.out (ARow.nil w1 w.heap.size)
        unfold st5 at F0 FB FR
        generalize ((((w1.setCell ⟨w.heap.size, 0, none⟩ (.int .i64 0)).setCell ⟨w.heap.size, 1, none⟩ (.string ⟨#[]⟩)).setCell ⟨w.heap.size, 2, none⟩ (.string ⟨#[]⟩)).setCell ⟨w.heap.size, 3, none⟩ (.slice none 0 0)).setCell ⟨w.heap.size, 4, none⟩ (.int .i64 0) = wf at F0 FB FR ⊢
        have g0 := F0.cell 0; have g1 := F0.cell 1; have g2 := F0.cell 2; have g3 := F0.cell 3; have g4 := F0.cell 4
        simp at g0 g1 g2 g3 g4
        exact bodyPost_ret (v := .tuple #[.agg zt, .int .i64 (p : Int), .bool false]) (by simp [results, Tryd.results22, go_sem, g0, g1, g2, g3, g4]) rfl ⟨rfl, FB⟩
    | ok t =>
      have CP := hide (CP.out _ hp)
      by_cases hm60 : 60 ∈ s.data.toList
      · simp only [if_pos hm60] at CI
        clear hm hv h60 hp g0 hvu hall heq hu hU hm60 hl
        go_enter Tryd.func22, Tryd.ntmps22
        go_wp2_with (first | (go_at_call 41; refine (CI.out _).mono ?_; rintro e w1 ⟨rfl, hw⟩; subst hw) | (go_at_call 42; refine CP.out.mono ?_; rintro e w1 ⟨h1, h2, rfl⟩; have S := hide h1; have HB := hide h2; have r0 := h1.cell 0; have r1 := h1.cell 1; have r2 := h1.cell 2; have r3 := h1.cell 3; have r4 := h1.cell 4; simp at r0 r1 r2 r3 r4; have q0 := h1.frozen 0; have q1 := h1.frozen 1; have q2 := h1.frozen 2; have q3 := h1.frozen 3; have q4 := h1.frozen 4; clear h1 h2))
        obtain ⟨F0, FB, FR⟩ := tk_st (k := 4) (x := ⟨#[]⟩) (t := ⟨t.toArray⟩) S.out HB.out (ARow.nil w1 w.heap.size)
        unfold st5 at F0 FB FR
        generalize ((((w1.setCell ⟨w.heap.size, 0, none⟩ (.int .i64 4)).setCell ⟨w.heap.size, 1, none⟩ (.string ⟨#[]⟩)).setCell ⟨w.heap.size, 2, none⟩ (.string ⟨t.toArray⟩)).setCell ⟨w.heap.size, 3, none⟩ (.slice none 0 0)).setCell ⟨w.heap.size, 4, none⟩ (.int .i64 0) = wf at F0 FB FR ⊢
        have g0 := F0.cell 0; have g1 := F0.cell 1; have g2 := F0.cell 2; have g3 := F0.cell 3; have g4 := F0.cell 4
        simp at g0 g1 g2 g3 g4
        exact bodyPost_ret (v := .tuple #[tkv 4 ⟨#[]⟩ ⟨t.toArray⟩ (.slice none 0 0) 0, .int .i64 (u.length : Int), .bool true]) (by simp [results, Tryd.results22, go_sem, g0, g1, g2, g3, g4]) rfl ⟨_, rfl, FR, FB⟩
      · simp only [if_neg hm60] at CI
        have hus := hall hm60
        rw [hus] at hx
        clear hm hv h60 hp g0 hvu hall heq hu hU hm60 hl
        go_enter Tryd.func22, Tryd.ntmps22
        go_wp2_with (first | (go_at_call 41; refine (CI.out _).mono ?_; rintro e w1 ⟨rfl, hw⟩; subst hw) | (go_at_call 42; refine CP.out.mono ?_; rintro e w1 ⟨h1, h2, rfl⟩; have S := hide h1; have HB := hide h2; have r0 := h1.cell 0; have r1 := h1.cell 1; have r2 := h1.cell 2; have r3 := h1.cell 3; have r4 := h1.cell 4; simp at r0 r1 r2 r3 r4; have q0 := h1.frozen 0; have q1 := h1.frozen 1; have q2 := h1.frozen 2; have q3 := h1.frozen 3; have q4 := h1.frozen 4; clear h1 h2))
        obtain ⟨F0, FB, FR⟩ := tk_st (k := 4) (x := ⟨#[]⟩) (t := ⟨t.toArray⟩) S.out HB.out (ARow.nil w1 w.heap.size)
        unfold st5 at F0 FB FR
        generalize ((((w1.setCell ⟨w.heap.size, 0, none⟩ (.int .i64 4)).setCell ⟨w.heap.size, 1, none⟩ (.string ⟨#[]⟩)).setCell ⟨w.heap.size, 2, none⟩ (.string ⟨t.toArray⟩)).setCell ⟨w.heap.size, 3, none⟩ (.slice none 0 0)).setCell ⟨w.heap.size, 4, none⟩ (.int .i64 0) = wf at F0 FB FR ⊢
        have g0 := F0.cell 0; have g1 := F0.cell 1; have g2 := F0.cell 2; have g3 := F0.cell 3; have g4 := F0.cell 4
        simp at g0 g1 g2 g3 g4
        exact bodyPost_ret (v := .tuple #[tkv 4 ⟨#[]⟩ ⟨t.toArray⟩ (.slice none 0 0) 0, .int .i64 (s.size : Int), .bool true]) (by simp [results, Tryd.results22, go_sem, g0, g1, g2, g3, g4]) rfl ⟨_, by rw [hus], FR, FB⟩
abbrev Tv := Tk × Value
abbrev tcs (p : Tv) : List Value := [.int .i64 p.1.k, .string ⟨p.1.x.toArray⟩, .string ⟨p.1.t.toArray⟩, p.2, .int .i64 (p.1.a : Int)]
abbrev tk0 : Tv := (⟨0, [], [], [], 0⟩, .slice none 0 0)
def flT (ps : List Tv) : List Value := ps.flatMap tcs
theorem flT_snoc (ps : List Tv) (x : Tv) : flT (ps ++ [x]) = flT ps ++ tcs x := by unfold flT; rw [List.flatMap_append]; simp
theorem flT_cons (x : Tv) (r : List Tv) : flT (x :: r) = tcs x ++ flT r := by unfold flT; rw [List.flatMap_cons]
theorem flT_at (ps : List Tv) : ∀ i j, i < ps.length → j < 5 → (flT ps)[i * 5 + j]? = (tcs (ps.getD i tk0))[j]? := by
  induction ps with
  | nil => intro i j h; simp at h
  | cons x r ih =>
    intro i j h hj
    rw [flT_cons]
    cases i with
    | zero => rw [List.getElem?_append_left (by simp; omega)]; simp
    | succ i =>
      rw [List.getElem?_append_right (by simp; omega)]
      have := ih i j (by simpa using h) hj
      simp only [List.length_cons, List.length_nil] at *
      rw [show (i + 1) * 5 + j - (0 + 1 + 1 + 1 + 1 + 1) = i * 5 + j by omega, this]
      simp
def TLs (w : World) (a : Option Addr) (ts : List Tk) : Prop :=
  ts = [] ∨ ∃ b off, a = some ⟨b, off, none⟩ ∧ b < w.heap.size ∧ ∀ i, i < ts.length → ∃ aa ac, ALs w aa (ts.getD i tk0.1).ps ∧ (ts.getD i tk0.1).ps.length ≤ 1000000 ∧
    w.cell? ⟨b, off + i * 5, none⟩ = some (.int .i64 (ts.getD i tk0.1).k) ∧ w.cell? ⟨b, off + i * 5 + 1, none⟩ = some (.string ⟨(ts.getD i tk0.1).x.toArray⟩) ∧ w.cell? ⟨b, off + i * 5 + 2, none⟩ = some (.string ⟨(ts.getD i tk0.1).t.toArray⟩) ∧
    w.cell? ⟨b, off + i * 5 + 3, none⟩ = some (.slice aa (ts.getD i tk0.1).ps.length ac) ∧ w.cell? ⟨b, off + i * 5 + 4, none⟩ = some (.int .i64 ((ts.getD i tk0.1).a : Int))
theorem TLs.below {w w' : World} {a : Option Addr} {ts : List Tk} (h : TLs w a ts) (hb : Below w.heap.size w w') : TLs w' a ts := by
  rcases h with h | ⟨b, off, h1, h2, h3⟩
  · exact Or.inl h
  · refine Or.inr ⟨b, off, h1, Nat.lt_of_lt_of_le h2 hb.size, fun i hi => ?_⟩
    obtain ⟨aa, ac, q, ql, q0, q1, q2, q3, q4⟩ := h3 i hi
    refine ⟨aa, ac, q.below hb, ql, ?_⟩
    rw [hb.cell (p := ⟨b, off + i * 5, none⟩) h2, hb.cell (p := ⟨b, off + i * 5 + 1, none⟩) h2, hb.cell (p := ⟨b, off + i * 5 + 2, none⟩) h2, hb.cell (p := ⟨b, off + i * 5 + 3, none⟩) h2, hb.cell (p := ⟨b, off + i * 5 + 4, none⟩) h2]
    exact ⟨q0, q1, q2, q3, q4⟩
def TRow (w : World) (B : Nat) (v : Value) (ts : List Tk) : Prop := ∃ tv : List Tv, tv.map Prod.fst = ts ∧ w.ownsRow B 45 5 v tv.length (flT tv) ∧ ∀ p ∈ tv, ARow w 0 p.2 p.1.ps ∧ p.1.ps.length ≤ 1000000
theorem TRow.nil (w : World) (B : Nat) : TRow w B (.slice none 0 0) [] := ⟨[], rfl, World.ownsRow_nil _ _ _ _, by simp⟩
theorem TRow.below {w w' : World} {B : Nat} {v : Value} {ts : List Tk} (h : TRow w B v ts) (hb : Below w.heap.size w w') : TRow w' B v ts := by
  obtain ⟨tv, h1, h2, h3⟩ := h
  exact ⟨tv, h1, ownsRow_kc h2 (KC.of_below hb), fun p hp => ⟨(h3 p hp).1.below hb, (h3 p hp).2⟩⟩
theorem TRow.lst {w : World} {B : Nat} {v : Value} {ts : List Tk} (h : TRow w B v ts) : ∃ a cap, v = .slice a ts.length cap ∧ TLs w a ts ∧ ts.length ≤ cap ∧ cap ≤ 9223372036854775807 := by
  obtain ⟨tv, rfl, h2, h3⟩ := h
  have h' := h2
  obtain ⟨_, ⟨h0, hz⟩ | ⟨g, cap, cur, hv, hg, hh, hc, hm, _⟩⟩ := h'
  · obtain rfl : tv = [] := List.eq_nil_of_length_eq_zero hz
    exact ⟨none, 0, h0, Or.inl rfl, by simp, by omega⟩
  · refine ⟨_, cap, by rw [List.length_map]; exact hv, ?_, by rw [List.length_map]; exact hc, by unfold maxLen at hm; exact hm⟩
    rw [hv] at h2
    refine Or.inr ⟨g, 0, rfl, heap_lt hh, fun i hi => ?_⟩
    rw [List.length_map] at hi
    have hge : (tv.map Prod.fst).getD i tk0.1 = (tv.getD i tk0).1 := by
      rw [List.getD_eq_getElem?_getD, List.getD_eq_getElem?_getD, List.getElem?_map, List.getElem?_eq_getElem hi]; rfl
    rw [hge]
    have hmem : tv.getD i tk0 ∈ tv := by rw [List.getD_eq_getElem?_getD, List.getElem?_eq_getElem hi]; exact List.getElem_mem _
    have hcell : ∀ j, j < 5 → w.cell? ⟨g, i * 5 + j, none⟩ = (tcs (tv.getD i tk0))[j]? := fun j hj => by
      rw [World.ownsRow.cellAt h2 (i * 5 + j) (by omega), flT_at tv i j hi hj]
    generalize tv.getD i tk0 = p at *
    obtain ⟨p1, p2⟩ := p
    obtain ⟨q1, q2⟩ := h3 _ hmem
    obtain ⟨aa, ac, he, hA, _⟩ := q1.lst
    simp only at he
    subst he
    rw [Nat.zero_add]
    exact ⟨aa, ac, hA, q2, hcell 0 (by omega), hcell 1 (by omega), hcell 2 (by omega), hcell 3 (by omega), hcell 4 (by omega)⟩
theorem info_tk : (Tryd.prog.info? 45).map (fun i => (i.zero, i.size, i.bytes)) = some (some (.agg zt), 5, 72) := by kernel_rfl
theorem tcs_one (c : Tv) (h : ∃ a n k, c.2 = .slice a n k) : ∀ u ∈ tcs c, u.oneCell' = true := by
  obtain ⟨a, n, k, h⟩ := h
  intro u hu
  simp only [tcs, List.mem_cons, List.not_mem_nil, or_false] at hu
  rcases hu with rfl | rfl | rfl | rfl | rfl
  all_goals first | rfl | (rw [h]; rfl)
theorem ARow.ty {w w' : World} {B : Nat} {v : Value} {ps : List At} (h : ARow w B v ps) (hk : ∀ (k : Nat) (c : Array Value) (t : TypeId) (f : Nat × Nat), w.heap[k]? = some (Obj.cells c t f) → t ≠ 45 → w'.heap[k]? = some (Obj.cells c t f)) : ARow w' B v ps := by
  obtain ⟨h1, h2 | ⟨g, cap, cur, hv, hg, hh, hr⟩⟩ := h
  · exact ⟨h1, Or.inl h2⟩
  · exact ⟨h1, Or.inr ⟨g, cap, cur, hv, hg, hk _ _ _ _ hh (by decide), hr⟩⟩
theorem app_tk {W : World} {B : Nat} {v va : Value} {ts : List Tk} (t : Tk) (H : Nat) (hH : W.heap.size = H) (h : TRow W B v ts) (ha : ARow W 0 va t.ps) (hp : t.ps.length ≤ 1000000) (hB : B ≤ W.heap.size) (hl : ts.length ≤ 1048576) :
    ∃ v' w2, (Builtin.append_ #[23, 23] 23 #[v, .slice (some ⟨H, 0, none⟩) 1 1]).run Tryd.prog (W.alloc (.cells (tcs (t, va)).toArray 45)) = .ok v' w2 ∧ TRow w2 B v' (ts ++ [t]) ∧ Below B W w2 := by
  subst hH
  obtain ⟨i0, hi, hz0, hz1, hz2⟩ := info_parts info_tk
  obtain ⟨tv, rfl, h2, h3⟩ := h
  rw [List.length_map] at hl
  obtain ⟨aa, ac, hva, _⟩ := ha.lst
  obtain ⟨gg, cap, w2, hr, ho, hg, hat, _⟩ := run_append_lies (P := Tryd.prog) (W.alloc (.cells (tcs (t, va)).toArray 45)) 23 23 B 45 i0 _ 5 72 Tryd.underlying23 hi hz0 hz1 hz2 rfl (by decide) v tv.length (flT tv) (World.ownsRow.alloc h2 _) ⟨W.heap.size, 0, none⟩ 1 1 (tcs (t, va)) (by simp)
    (fun j u hu => by rw [Go.WideShapes.add_plain, Nat.zero_add, World.cell?_alloc_at _ _ _ _ rfl]; simpa using hu) (tcs_one _ ⟨_, _, _, hva⟩) (by decide) (by unfold maxLen; omega) (by omega) (by simp; omega) (W.heap.size + 1) (by simp)
  have hal := (Below.refl W.heap.size W).alloc (Nat.le_refl _) (.cells (tcs (t, va)).toArray 45)
  have hty : ∀ (k : Nat) (c : Array Value) (t : TypeId) (f : Nat × Nat), W.heap[k]? = some (Obj.cells c t f) → t ≠ 45 → w2.heap[k]? = some (Obj.cells c t f) := fun k c t f hc ht => by
    have hk := heap_lt hc
    rw [hg.block k (by simp; omega) (fun e => by
      obtain ⟨_, ⟨h0, _⟩ | ⟨g, cap, cur, hv, _, hh, _⟩⟩ := h2
      · rw [h0] at e; simp [Value.ownBlock] at e
      · rw [hv] at e
        have : k = g := by simpa [Value.ownBlock] using e
        subst this
        rw [hc] at hh
        injection hh with hh
        injection hh with _ e _
        exact ht e)]
    rw [hal.block k hk]; exact hc
  refine ⟨_, w2, hr, ⟨tv ++ [(t, va)], by simp, by rw [flT_snoc, List.length_append]; exact ho, fun p hp' => ?_⟩, ((Below.refl B W).alloc hB _).grown hg (by simp; omega) fun k hk' => (World.ownsRow.lt h2 k hk').1⟩
  rw [List.mem_append, List.mem_singleton] at hp'
  rcases hp' with hp' | rfl
  · exact ⟨(h3 p hp').1.ty hty, (h3 p hp').2⟩
  · exact ⟨ha.ty hty, hp⟩
theorem rd_vt (l : List UInt8) : ((rd st8 l 0).2.2 = 0 ∨ (rd st8 l 0).2.2 = 40) ∧ ((rd st8 l 0).2.2 = 0 ↔ Vt l) := by
  have key : ∀ (n : Nat) (l : List UInt8) (p : Nat) (acc : List Int), l.length ≤ n → ∀ R, Rd st8 l p acc R → ((R.2.2 = 0 ∨ R.2.2 = 40) ∧ (R.2.2 = 0 ↔ Vt l)) := by
    intro n
    induction n with
    | zero =>
      intro l p acc h R hR
      obtain rfl : l = [] := List.length_eq_zero_iff.1 (by omega)
      rw [hR.done]
      exact ⟨Or.inl rfl, by simp; exact .nil⟩
    | succ n ih =>
      intro l p acc h R hR
      by_cases hl : l = []
      · subst hl
        rw [hR.done]
        exact ⟨Or.inl rfl, by simp; exact .nil⟩
      by_cases h0 : (st8 l).2 = 0
      · rw [hR.bad hl h0]
        refine ⟨Or.inr rfl, fun h => absurd h (by simp), fun hv => ?_⟩
        obtain ⟨c, r, he, hc, hr, hd⟩ := hv.step hl
        rw [he, code8.back c r hc] at h0
        have := code8.len c
        simp only at h0
        omega
      · have hst := hR.step hl h0
        obtain ⟨g1, g2, g3⟩ := code8.good l h0
        have hlen := (code8.len (st8 l).1).1
        have hdl : (l.drop (st8 l).2).length ≤ n := by rw [List.length_drop]; have := List.length_pos_iff.2 hl; omega
        obtain ⟨q1, q2⟩ := ih _ _ _ hdl R hst
        refine ⟨q1, q2.trans ⟨fun hv => ?_, fun hv => ?_⟩⟩
        · have := Vt.cons _ _ g1 hv
          rwa [g2, List.take_append_drop] at this
        · obtain ⟨c, r, he, hc, hr, hd⟩ := hv.step hl
          rw [st_dN h0] at hd
          rw [hd]
          simp only
          rw [he, List.drop_left' rfl]
          exact hr
  exact key _ _ _ _ (Nat.le_refl _) _ (Rd.start _ _ _)
def scR (l : List UInt8) : List Tk × Nat × Int := if (rd st8 l 0).2.2 = 0 then (match scV l with
    | .ok ts => (ts, 0, 0)
    | .error q => ([], q, 170)) else ([], (rd st8 l 0).2.1, 40)
def ScR (w : World) (R : List Tk × Nat × Int) (e : Ending) (w' : World) : Prop := ∃ v, e = .returned (.tuple #[v, .int .i64 (R.2.1 : Int), .int .i64 R.2.2]) ∧ TRow w' w.heap.size v R.1 ∧ Below w.heap.size w w'
def scE (R : Except Nat (List Tk)) : List Tk × Nat × Int := match R with
    | .ok ts => (ts, 0, 0)
    | .error q => ([], q, 170)
theorem plF_err : ∀ (f : Nat) (l : List UInt8) (p : Nat) (acc : List UInt8) {q : Nat}, plF f l p acc = .error q → p ≤ q ∧ q < p + l.length
  | 0, l, p, acc, q, h => by simp [plF] at h
  | f + 1, l, p, acc, q, h => by
    rw [plF] at h
    split at h
    · simp at h
    · rename_i hl
      have hpos := List.length_pos_iff.2 hl
      split at h
      · split at h
        · injection h with h; omega
        · rename_i c n he
          have h1 := ent_bd he
          have h2 := plF_err f _ _ _ h
          rw [List.length_drop] at h2
          omega
      · split at h
        · injection h with h; omega
        · have h1 := dN_pos l hl
          have h2 := plF_err f _ _ _ h
          rw [List.length_drop] at h2
          omega
theorem pl_err {l : List UInt8} {q : Nat} (h : pl l = .error q) : q < l.length := by have := plF_err _ _ _ _ h; omega
theorem tokV_err {l : List UInt8} {q : Nat} (hl : l ≠ []) (h : tokV l = .error q) : q < l.length := by
  have hpos := List.length_pos_iff.2 hl
  unfold tokV at h
  split at h
  · cases ht : tagV l with
    | none => rw [ht] at h; injection h with h; omega
    | some p => obtain ⟨k, x, ps, r⟩ := p; rw [ht] at h; simp at h
  · cases hp : pl (upto 60 l) with
    | error p =>
      rw [hp] at h
      injection h with h
      have := pl_err hp
      have := upto_le 60 l
      omega
    | ok u => rw [hp] at h; simp at h
theorem ext_l (s : ByteArray) (k : Nat) (h : k ≤ s.size) : (s.extract k s.size).data.toList = s.data.toList.drop k := by
  rw [Lib.extract_data, List.take_of_length_le]
  rw [List.length_drop, size_l]; exact Nat.le_refl _
set_option maxHeartbeats 4000000 in
theorem scan_any (s : ByteArray) (w : World) (hg : Glo w) (hm : MX w) (hs : s.size ≤ 1048576) :
    Calls Tryd.prog 10 #[.string s] w (ScR w (scR s.data.toList)) := by
  have hs' : (s.size : Int) ≤ 1048576 := by omega
  have hl : s.data.toList.length = s.size := size_l s
  obtain ⟨q1, q2⟩ := rd_vt s.data.toList
  unfold scR
  obtain ⟨⟨ZS, P, E⟩, hrd⟩ : ∃ r, rd st8 s.data.toList 0 = r := ⟨_, rfl⟩
  have CD := hide (fun w hg => decode_core s w hg hs ZS P E hrd)
  rw [hrd] at q1 q2 ⊢
  simp only at q1 q2 ⊢
  have CD := hide (CD.out w hg)
  by_cases hE : E = 0
  · subst hE
    rw [if_pos rfl]
    have hv := q2.1 rfl
    change Calls _ _ _ _ (ScR w (scE (scV s.data.toList)))
    obtain ⟨R, hR⟩ : ∃ R, scV s.data.toList = R := ⟨_, rfl⟩
    rw [hR]
    have HSC := hide (show SC s.data.toList 0 [] R by rw [← hR]; exact SC.start _)
    have HV := hide hv
    have HS := hide hs
    have HM := hide hm
    clear hg hs q1 q2 hrd hR hv hm
    go_enter Tryd.func10, Tryd.ntmps10
    go_wp2_with (first | (go_at_call 21; refine CD.out.mono ?_; rintro e w0 ⟨v0, rfl, h1, h2⟩; have HB0 := hide h2; have HM0 := hide (HM.out.below h2); clear h1 h2))
    go_loopw [8, 9] (fun vl va wr => ∃ (pos : Nat) (acc : List Tk), va = .int .i64 pos ∧ Hid (pos ≤ s.size ∧ acc.length ≤ pos ∧ TRow wr w.heap.size vl acc ∧ Below w.heap.size w wr ∧ MX wr ∧ SC (s.data.toList.drop pos) pos acc R ∧ Vt (s.data.toList.drop pos))) (fun _ va _ => s.size - (RowKit.intOf va).toNat)
    case atStart => exact ⟨0, [], rfl, hide ⟨by omega, by simp, TRow.nil _ _, HB0.out, HM0.out, by simpa using HSC.out, by simpa using HV.out⟩⟩
    case round =>
      obtain ⟨pos, acc, rfl, HP⟩ := hrel
      obtain ⟨p1, p2, p3, p4, p5, p6, p7⟩ := HP.out
      clear HP HSC HV HB0 HM0 CD
      by_cases hlt : pos < s.size
      · have hlt' : (pos : Int) < (s.size : Int) := by omega
        have hne := drop_ne s.data.toList pos (by rw [hl]; exact hlt)
        have hex := ext_l s pos p1
        have hzx : (s.extract pos s.size).size = s.size - pos := by rw [ByteArray.size_extract]; omega
        have CT := token_any (s.extract pos s.size) wr p5 (by have := HS.out; omega) (by rw [hex]; exact p7) (by omega)
        rw [hex] at CT
        cases ht : tokV (s.data.toList.drop pos) with
        | error q =>
          have hR := p6.bad hne ht
          subst hR
          rw [ht] at CT
          have CT := hide CT
          have P4 := hide p4
          have hq : (q : Int) ≤ 1048576 := by have := tokV_err hne ht; rw [List.length_drop] at this; omega
          clear p3 p4 p5 p6 p7 hne hex hzx ht
          go_wp2_with (first | (go_at_call 22; refine CT.out.mono ?_; rintro e w1 ⟨rfl, h1⟩; have HB1 := hide ((P4.out.trans (h1.mono P4.out.size)).alloc (by have := P4.out.size; have := h1.size; omega) (.cells zt 45)); clear h1))
          go_ret3
          exact ⟨_, rfl, TRow.nil _ _, HB1.out⟩
        | ok p =>
          obtain ⟨t, n⟩ := p
          have hst := p6.step hne ht
          obtain ⟨t1, t2, t3, t4⟩ := tokV_len hne ht
          rw [List.length_drop] at t2
          rw [List.drop_drop] at hst
          have hv3 := t3 p7
          rw [List.drop_drop] at hv3
          rw [ht] at CT
          have CT := hide CT
          have P3 := hide p3
          have P4 := hide p4
          have P5 := hide p5
          have HSTEP := hide (And.intro hst hv3)
          have HPS := hide t4
          have HN := hide (show pos + n ≤ s.size ∧ 1 ≤ n ∧ acc.length + 1 ≤ pos + n by omega)
          have HACC := hide (show acc.length ≤ 1048576 by omega)
          have hn' : (n : Int) ≤ 1048576 := by omega
          obtain ⟨m, hm⟩ : ∃ m, pos + n = m := ⟨_, rfl⟩
          rw [hm] at HSTEP HN
          have hpn : (pos : Int) + (n : Int) = (m : Int) := by omega
          have hpn2 : (m : Int) ≤ 1048576 := by omega
          have HMM := hide hm
          clear p3 p4 p5 p6 p7 hne hex hzx ht hst hv3 t1 t2 t3 t4 p2 hm
          go_wp2_with (first | (go_at_call 22; refine CT.out.mono ?_; rintro e w1 ⟨va, rfl, h0, h1⟩; obtain ⟨aa, ac, rfl, _⟩ := h0.lst; have hal := (Below.refl w1.heap.size w1).alloc (Nat.le_refl _) (.cells (tcs ({ t with a := pos }, .slice aa t.ps.length ac)).toArray 45); obtain ⟨v2, w2, hr, hrow, hbel⟩ := app_tk { t with a := pos } (w1.heap.size + 1) (by simp) ((P3.out.below h1).below hal) ((h0.lower (Nat.zero_le _)).below hal) (by show t.ps.length ≤ _; have := HPS.out; omega) (by have := P4.out.size; have := h1.size; simp; omega) HACC.out; have hw2 : Below w.heap.size w w2 := ((P4.out.trans (h1.mono P4.out.size)).trans (hal.mono (by have := P4.out.size; have := h1.size; omega))).trans hbel; obtain ⟨a2, c2, hv2, _⟩ := hrow.lst; subst hv2; have HR := hide hr; have HROW := hide hrow; have HBEL := hide hw2; have HMX := hide (HM.out.below hw2); clear hr hrow hbel hw2 hal h0 h1) | (at_builtin; refine Lib.wpList_append_run _ rfl _ _ _ _ rfl _ _ rfl rfl _ _ HR.out ?_))
          go_roundw
          case rel => exact ⟨m, acc ++ [{ t with a := pos }], by first | rfl | go_num, hide ⟨HN.out.1, by rw [List.length_append]; exact HN.out.2.2, by have := HROW.out; simpa using this, HBEL.out, HMX.out, HSTEP.out.1, HSTEP.out.2⟩⟩
          case measure => have := HN.out; have := HMM.out; simp [RowKit.intOf]; omega
      · have hlt' : ¬ (pos : Int) < (s.size : Int) := by omega
        rw [List.drop_eq_nil_of_le (by rw [hl]; omega)] at p6
        have hR := p6.done
        subst hR
        have P3 := hide p3
        have P4 := hide p4
        clear p3 p4 p5 p6 p7
        go_wp2
        go_ret3
        exact ⟨_, rfl, P3.out, P4.out⟩
  · rw [if_neg hE]
    obtain rfl : E = 40 := by rcases q1 with h | h; exact absurd h hE; exact h
    clear hg hs q1 q2 hrd hm hE
    go_enter Tryd.func10, Tryd.ntmps10
    go_wp2_with (first | (go_at_call 21; refine CD.out.mono ?_; rintro e w0 ⟨v0, rfl, h1, h2⟩; have HB0 := hide h2; clear h1 h2))
    go_ret3
    exact ⟨_, rfl, TRow.nil _ _, HB0.out⟩
theorem hp_iff (p l : List UInt8) : hp p l = true ↔ ∃ z, l = p ++ z := by
  unfold hp Lib.hasPrefix
  rw [List.isPrefixOf_iff_prefix]
  constructor
  · rintro ⟨z, h⟩; exact ⟨z, h.symm⟩
  · rintro ⟨z, h⟩; exact ⟨z, h.symm⟩
theorem tp_t {p l z : List UInt8} (h : l = p ++ z) : tp p l = z := by
  unfold tp
  rw [if_pos ((hp_iff p l).2 ⟨z, h⟩), h, List.drop_left' rfl]
def noA (t : Tk) : Tk := { t with a := 0 }
theorem beq_self (s : ByteArray) : (s.toList == s.toList) = true := by simp
end Go.Proofs.YtpmdekhjodhdmaaDoor.K17
