/-
  What is written is read as it was: in plain words.
-/
import Derived.Test.YtalmcdbdibpgkaaGreatDoorO5Bf
import Derived.Test.YtalmcdbdibpgkaaGreatDoorO5Fp
namespace Go.Proofs.YtalmcdbdibpgkaaGreatDoor
open Go.RowKit Go.Deep
set_option linter.unusedVariables false

abbrev nEnd (b : Nat) : Bool := !isEnd b
theorem run_app (p : Nat → Bool) : ∀ (w r : List UInt8), (∀ c ∈ w, p c.toNat = true) → run p (w ++ r) = w.length + run p r
  | [], r, _ => by simp
  | c :: w, r, h => by
    rw [List.cons_append, run, if_pos (h c (by simp)), run_app p w r (fun d hd => h d (by simp [hd]))]
    simp only [List.length_cons]; omega
theorem run_stop (p : Nat → Bool) (c : UInt8) (r : List UInt8) (h : p c.toNat = false) : run p (c :: r) = 0 := by rw [run, if_neg (by simp [h])]
theorem drop_on {l u r : List UInt8} {a : Nat} (h : l.drop a = u ++ r) : l.drop (a + u.length) = r := by
  rw [← List.drop_drop, h]; simp
theorem drop_one {l r : List UInt8} {c : UInt8} {a : Nat} (h : l.drop a = c :: r) : l.drop (a + 1) = r := drop_on (u := [c]) h
abbrev Bls (bl : List UInt8) : Prop := ∀ c ∈ bl, isBl c.toNat = true
def EndOk (r : List UInt8) : Prop := run nEnd r = 0
theorem blanks_on {l bl r : List UInt8} {a : Nat} (h : l.drop a = bl ++ r) (hb : Bls bl) (hr : run isBl r = 0) : blanksV l a = a + bl.length := by
  unfold blanksV; rw [h, run_app _ _ _ hb, hr]; omega
theorem word_on {l u r : List UInt8} {a : Nat} (h : l.drop a = u ++ r) (hw : ∀ c ∈ u, isEnd c.toNat = false) (hr : EndOk r) : wordV l a = a + u.length ∧ (l.drop a).take (wordV l a - a) = u := by
  have e : wordV l a = a + u.length := by
    unfold wordV; rw [h, run_app _ _ _ (fun c hc => by simp [hw c hc]), show run (fun b => !isEnd b) r = 0 from hr]; omega
  refine ⟨e, ?_⟩
  rw [e, h, show a + u.length - a = u.length by omega]; simp
theorem end_bl {c : UInt8} (h : isEnd c.toNat = false) : isBl c.toNat = false ∧ isDl c.toNat = false := by
  unfold isEnd at h; simpa using h
theorem pre_ne {l : List UInt8} {c d : UInt8} {r p : List UInt8} (h : l = c :: r) (hne : c ≠ d) : Lib.hasPrefix l (d :: p) = false := by
  subst h; unfold Lib.hasPrefix; simp [List.isPrefixOf]; intro e; exact absurd e.symm hne
theorem pre_eq {l : List UInt8} {c : UInt8} {r : List UInt8} (h : l = c :: r) : Lib.hasPrefix l [c] = true := by
  subst h; unfold Lib.hasPrefix; simp [List.isPrefixOf]
theorem dl_ne {c : UInt8} (h : isDl c.toNat = false) : c ≠ 60 ∧ c ≠ 91 ∧ c ≠ 40 ∧ c ≠ 47 := by
  refine ⟨?_, ?_, ?_, ?_⟩ <;> rintro rfl <;> exact absurd h (by decide)
/- a word at its place -/
theorem ob_wd1 (l : List UInt8) (rd : Rd) (a nest : Nat) (bl : List UInt8) (c : UInt8) (u r : List UInt8) (h : l.drop a = bl ++ (c :: u ++ r)) (hb : Bls bl) (hw : ∀ d ∈ c :: u, isEnd d.toNat = false) (hr : EndOk r) :
    obS l rd a nest = (wdP l (c :: u) (a + bl.length + (c :: u).length)).map fun q => (q.1, .nil, q.2) := by
  have hc := end_bl (hw c (by simp))
  have e1 : blanksV l a = a + bl.length := blanks_on h hb (by rw [List.cons_append]; exact run_stop _ _ _ hc.1)
  have h2 := drop_on h
  obtain ⟨n1, n2, n3, n4⟩ := dl_ne hc.2
  obtain ⟨w1, w2⟩ := word_on h2 hw hr
  unfold obS
  rw [e1]
  rw [pre_ne h2 n1, pre_ne h2 n2, pre_ne h2 n1, pre_ne h2 n3, pre_ne h2 n4]
  simp only [Bool.false_eq_true, if_false]
  unfold wdV
  rw [w2, w1]
/- what makes no reference of an integer ahead of it -/
def HR (r : List UInt8) : Prop := ∀ l E, l.drop E = r → twV l [82] (blanksV l E) = false
def NR (r : List UInt8) : Prop := ∀ l E, l.drop E = r → refV l E = none
structure Gr (r : List UInt8) : Prop where
  endOk : EndOk r
  nr : NR r
  hr : HR r
theorem bls_split : ∀ r : List UInt8, ∃ bl r', r = bl ++ r' ∧ Bls bl ∧ run isBl r' = 0
  | [] => ⟨[], [], rfl, by simp [Bls], rfl⟩
  | c :: r => by
    cases hc : isBl c.toNat
    · exact ⟨[], c :: r, rfl, by simp [Bls], run_stop _ _ _ hc⟩
    · obtain ⟨bl, r', e, h1, h2⟩ := bls_split r
      exact ⟨c :: bl, r', by rw [e]; rfl, by intro d hd; rcases List.mem_cons.1 hd with rfl | hd; exact hc; exact h1 d hd, h2⟩
theorem hr_bl {bl : List UInt8} (hb : Bls bl) : HR bl := fun l E h => by
  rw [blanks_on (r := []) (by simpa using h) hb rfl]
  have := drop_on (u := bl) (r := []) (by simpa using h)
  unfold twV; rw [this]; rfl
theorem hr_head {bl r : List UInt8} {c : UInt8} (hb : Bls bl) (hc : isBl c.toNat = false) (h82 : c ≠ 82) : HR (bl ++ c :: r) := fun l E h => by
  rw [blanks_on h hb (run_stop _ _ _ hc)]
  unfold twV; rw [pre_ne (drop_on h) h82]; rfl
theorem nr_bl {bl : List UInt8} (hb : Bls bl) : NR bl := fun l E h => by
  have := drop_on (u := bl) (r := []) (by simpa using h)
  unfold refV
  rw [blanks_on (r := []) (by simpa using h) hb rfl, if_neg]
  unfold twV; rw [this]; simp [Lib.hasPrefix, List.isPrefixOf]
theorem nr_head {bl r : List UInt8} {c : UInt8} (hb : Bls bl) (hc : isBl c.toNat = false) (h : c ≠ 48 ∨ HR r ∨ ∃ d r', r = d :: r' ∧ isEnd d.toNat = false) : NR (bl ++ c :: r) := fun l E hl => by
  have h2 := drop_on hl
  unfold refV
  rw [blanks_on hl hb (run_stop _ _ _ hc)]
  by_cases h48 : c = 48
  · subst h48
    rcases h with h | h | ⟨d, r', rfl, hd⟩
    · exact absurd rfl h
    · rw [h l _ (drop_one h2)]; simp
    · rw [if_neg]
      unfold twV endV
      rw [show l.drop (E + bl.length + ([48] : List UInt8).length) = d :: r' from drop_one h2]
      simp [hd]
  · rw [if_neg]
    unfold twV; rw [pre_ne h2 h48]; simp
theorem gr_nil : Gr [] := ⟨rfl, nr_bl (by simp [Bls]), hr_bl (by simp [Bls])⟩
theorem end_of_bl {c : UInt8} (h : isBl c.toNat = true) : isEnd c.toNat = true := by unfold isEnd; rw [h]; rfl
theorem end_cons {c : UInt8} {r : List UInt8} (h : isEnd c.toNat = true) : EndOk (c :: r) := run_stop _ _ _ (by simp [h])
theorem gr_bl {bl : List UInt8} (hb : Bls bl) : Gr bl := ⟨by cases bl with | nil => rfl | cons c r => exact end_cons (end_of_bl (hb c (by simp))), nr_bl hb, hr_bl hb⟩
theorem gr_head {c : UInt8} {r : List UInt8} (h : isEnd c.toNat = true) (hb : isBl c.toNat = false) : Gr (c :: r) := by
  have h48 : c ≠ 48 := by rintro rfl; exact absurd h (by decide)
  have h82 : c ≠ 82 := by rintro rfl; exact absurd h (by decide)
  exact ⟨end_cons h, nr_head (bl := []) (by simp [Bls]) hb (Or.inl h48), hr_head (bl := []) (by simp [Bls]) hb h82⟩
theorem gr_more {b : UInt8} {bl : List UInt8} {c : UInt8} {u r : List UInt8} (h0 : isBl b.toNat = true) (hb : Bls bl) (hc : isBl c.toNat = false) (h82 : c ≠ 82) (h : c ≠ 48 ∨ HR (u ++ r) ∨ ∃ d r', u ++ r = d :: r' ∧ isEnd d.toNat = false) : Gr (b :: bl ++ (c :: u ++ r)) := by
  have hbb : Bls (b :: bl) := fun d hd => by rcases List.mem_cons.1 hd with rfl | hd; exact h0; exact hb d hd
  exact ⟨end_cons (end_of_bl h0), nr_head hbb hc h, hr_head hbb hc h82⟩
/- names -/
theorem hex_back : ∀ n : Fin 256, (hexB (upD (n.val / 16)) && hexB (upD (n.val % 16))) = true ∧ byte2 (upD (n.val / 16)) (upD (n.val % 16)) = UInt8.ofNat n.val := by decide +kernel
theorem pl_back : ∀ n : Fin 256, isPl n.val = true → isEnd n.val = false ∧ n.val ≠ 35 ∧ ¬ (n.val < 33 ∨ 126 < n.val) := by decide +kernel
theorem hex_at (c : UInt8) : (hexB (upD (c.toNat / 16)) && hexB (upD (c.toNat % 16))) = true ∧ byte2 (upD (c.toNat / 16)) (upD (c.toNat % 16)) = c := by
  have := hex_back ⟨c.toNat, c.toNat_lt⟩
  simpa using this
theorem nR_on : ∀ (t r : List UInt8) (f p : Nat) (acc : List UInt8), EndOk r → (t.flatMap nchT ++ r).length ≤ f → nR f (t.flatMap nchT ++ r) p acc = some (acc ++ t, p + (t.flatMap nchT).length)
  | [], r, f, p, acc, hr, hf => by
    simp only [List.flatMap_nil, List.nil_append, List.append_nil, List.length_nil, Nat.add_zero]
    cases r with
    | nil => cases f <;> rfl
    | cons c r =>
      cases f with
      | zero => rfl
      | succ f =>
        rw [nR_cons, if_pos]
        unfold EndOk at hr
        cases hc : isEnd c.toNat
        · rw [run, if_pos (by simp [hc])] at hr; omega
        · rfl
  | c :: t, r, f, p, acc, hr, hf => by
    rw [List.flatMap_cons, List.append_assoc] at hf ⊢
    by_cases hp : isPl c.toNat = true
    · rw [show nchT c = [c] by unfold nchT; rw [if_pos hp]] at hf ⊢
      obtain ⟨h1, h2, h3⟩ := pl_back ⟨c.toNat, c.toNat_lt⟩ hp
      cases f with
      | zero => simp at hf
      | succ f =>
        rw [List.cons_append, List.nil_append, nR_cons, if_neg (by simpa using h1), if_neg h2, if_neg h3, nR_on t r f _ _ hr (by simp at hf ⊢; omega)]
        simp; omega
    · rw [show nchT c = [35, upD (c.toNat / 16), upD (c.toNat % 16)] by unfold nchT hexT; rw [if_neg hp]] at hf ⊢
      obtain ⟨h1, h2⟩ := hex_at c
      cases f with
      | zero => simp at hf
      | succ f =>
        simp only [List.cons_append, List.nil_append, List.length_cons] at hf ⊢
        rw [nR_cons, if_neg (by decide), if_pos (by decide)]
        dsimp only
        rw [if_pos h1, h2, nR_on t r f _ _ hr (by omega)]
        simp; omega
theorem nm_on (t r : List UInt8) (p : Nat) (hr : EndOk r) : nmV (t.flatMap nchT ++ r) p = some (t, p + (t.flatMap nchT).length) := by
  unfold nmV; rw [nR_on t r _ p [] hr (Nat.le_refl _)]; rfl
/- strings -/
theorem rd_back : ∀ n : Fin 256, isSl n.val = false → n.val ≠ 40 ∧ n.val ≠ 41 ∧ n.val ≠ 92 := by decide +kernel
theorem sl_back : ∀ n : Fin 256, isSl n.val = true → escL n.val = some n.val := by decide +kernel
theorem qR_on : ∀ (t r : List UInt8) (f p : Nat) (acc : List UInt8), (t.flatMap schT ++ 41 :: r).length ≤ f → qR f (t.flatMap schT ++ 41 :: r) 0 p acc = some (acc ++ t, p + (t.flatMap schT).length + 1)
  | [], r, f, p, acc, hf => by
    cases f with
    | zero => simp at hf
    | succ f =>
      rw [List.flatMap_nil, List.nil_append]
      unfold qR
      rw [if_neg (by decide), if_pos (by decide), if_pos rfl]
      simp
  | c :: t, r, f, p, acc, hf => by
    rw [List.flatMap_cons, List.append_assoc] at hf ⊢
    cases hs : isSl c.toNat
    · rw [show schT c = [c] by unfold schT; rw [hs]; rfl] at hf ⊢
      obtain ⟨h1, h2, h3⟩ := rd_back ⟨c.toNat, c.toNat_lt⟩ hs
      simp only at h1 h2 h3
      cases f with
      | zero => simp at hf
      | succ f =>
        rw [List.cons_append, List.nil_append]
        unfold qR
        rw [if_neg h1, if_neg h2, if_neg h3, qR_on t r f _ _ (by simp at hf ⊢; omega)]
        simp; omega
    · rw [show schT c = [92, c] by unfold schT; rw [hs]; rfl] at hf ⊢
      cases f with
      | zero => simp at hf
      | succ f =>
        rw [List.cons_append, List.cons_append, List.nil_append]
        unfold qR
        rw [if_neg (by decide), if_neg (by decide), if_pos (by decide)]
        have he : escV (c :: (t.flatMap schT ++ 41 :: r)) = some (c.toNat, 1) := by
          unfold escV
          simp only
          rw [show escL c.toNat = some c.toNat from sl_back ⟨c.toNat, c.toNat_lt⟩ hs]
        rw [he]
        simp only [List.drop_succ_cons, List.drop_zero, UInt8.ofNat_toNat]
        rw [qR_on t r f _ _ (by simp at hf ⊢; omega)]
        simp; omega
theorem quo_on (t r : List UInt8) (p : Nat) : quoV (t.flatMap schT ++ 41 :: r) p = some (t, p + (t.flatMap schT).length + 1) := by
  unfold quoV; rw [qR_on t r _ p [] (Nat.le_refl _)]; rfl
theorem up_ne : ∀ n : Fin 16, upD n.val ≠ 62 ∧ upD n.val ≠ 60 := by decide +kernel
theorem dR_on : ∀ (t r : List UInt8) (f p : Nat) (acc : List UInt8), (t.flatMap hexT ++ 62 :: r).length ≤ f → dR f (t.flatMap hexT ++ 62 :: r) p acc = some (acc ++ t, p + (t.flatMap hexT).length + 1)
  | [], r, f, p, acc, hf => by
    cases f with
    | zero => simp at hf
    | succ f => rw [List.flatMap_nil, List.nil_append, dR_cons, if_pos (by decide)]; simp
  | c :: t, r, f, p, acc, hf => by
    rw [List.flatMap_cons, List.append_assoc] at hf ⊢
    obtain ⟨h1, h2⟩ := hex_at c
    rw [show hexT c = [upD (c.toNat / 16), upD (c.toNat % 16)] from rfl] at hf ⊢
    cases f with
    | zero => simp at hf
    | succ f =>
      have hc : c.toNat < 256 := c.toNat_lt
      have hn := (up_ne ⟨c.toNat / 16, by omega⟩).1
      have hn : ¬ (upD (c.toNat / 16)).toNat = 62 := fun e => hn (UInt8.toNat_inj.1 (by simpa using e))
      simp only [List.cons_append, List.nil_append, List.length_cons] at hf ⊢
      rw [dR_cons, if_neg hn]
      dsimp only
      rw [if_pos h1, h2, dR_on t r f (p + 2) (acc ++ [c]) (by omega)]
      simp; omega
theorem dig_on (t r : List UInt8) (p : Nat) : digV (t.flatMap hexT ++ 62 :: r) p = some (t, p + (t.flatMap hexT).length + 1) := by
  unfold digV; rw [dR_on t r _ p [] (Nat.le_refl _)]; rfl

theorem num_end {d : UInt8} (h : d = 45 ∨ d = 46 ∨ (48 ≤ d.toNat ∧ d.toNat ≤ 57)) : isEnd d.toNat = false := by
  rcases h with rfl | rfl | h
  · decide
  · decide
  · unfold isEnd isBl isDl
    rw [Bool.or_eq_false_iff, decide_eq_false_iff_not, decide_eq_false_iff_not]
    omega
theorem num_ne {c : UInt8} (h : c = 45 ∨ (48 ≤ c.toNat ∧ c.toNat ≤ 57)) : c ≠ 110 ∧ c ≠ 116 ∧ c ≠ 102 := by
  refine ⟨?_, ?_, ?_⟩ <;> rintro rfl <;> revert h <;> decide
theorem ref_on {l r : List UInt8} {E : Nat} (h : l.drop E = 32 :: 48 :: 32 :: 82 :: r) (hr : EndOk r) : refV l E = some (E + 4) := by
  have b1 : blanksV l E = E + 1 := blanks_on (bl := [32]) (r := 48 :: 32 :: 82 :: r) h (by simp [Bls, isBl]) (run_stop _ _ _ (by decide))
  have d1 := drop_one h
  have d2 := drop_one d1
  have b2 : blanksV l (E + 1 + 1) = E + 1 + 1 + 1 := blanks_on (bl := [32]) (r := 82 :: r) d2 (by simp [Bls, isBl]) (run_stop _ _ _ (by decide))
  have d3 := drop_one d2
  have d4 := drop_one d3
  unfold refV
  have t1 : twV l [48] (E + 1) = true := by
    unfold twV endV
    rw [pre_eq d1, show l.drop (E + 1 + ([48] : List UInt8).length) = _ from d2]
    exact (by decide : (true && isEnd (32 : UInt8).toNat) = true)
  have t2 : twV l [82] (E + 1 + 1 + 1) = true := by
    unfold twV endV
    rw [pre_eq d3, show l.drop (E + 1 + 1 + 1 + ([82] : List UInt8).length) = _ from d4]
    cases r with
    | nil => rfl
    | cons c r =>
      unfold EndOk at hr
      cases hc : isEnd c.toNat
      · rw [run, if_pos (by simp [hc])] at hr; omega
      · simp [hc]
  rw [b1, if_pos t1, b2, if_pos t2]
theorem wd_int {l u r : List UInt8} {c : UInt8} {E : Nat} {x : Int} (hc : c = 45 ∨ (48 ≤ c.toNat ∧ c.toNat ≤ 57)) (ha : aiV (c :: u) = some x) : wdP l (c :: u) E = match refV l E with
      | some e2 => some (zp 8 false x, e2)
      | none => some (zp 2 false x, E) := by
  obtain ⟨n1, n2, n3⟩ := num_ne hc
  unfold wdP
  rw [if_neg (by intro e; injection e with e _; exact n1 e), if_neg (by intro e; injection e with e _; exact n2 e), if_neg (by intro e; injection e with e _; exact n3 e), ha]
  rfl
theorem arr_text (p : Pay) : (⟨p.text.data.toList.toArray⟩ : ByteArray) = p.text := by cases p.text; simp
theorem tp_text {k : Int} {p : Pay} (e : p = ⟨k, false, 0, p.text, []⟩) : tp k p.text.data.toList = p :=
  (congrArg (fun t => (⟨k, false, 0, t, []⟩ : Pay)) (arr_text p)).trans e.symm
theorem ob_leaf {p : Pay} {n : Nat} (hf : flatV p n = true) (h6 : p.kind ≠ 6) (h7 : p.kind ≠ 7) (l : List UInt8) (rd : Rd) (a nest : Nat) (bl r : List UInt8) (h : l.drop a = bl ++ (atomT p ++ r)) (hb : Bls bl) (hr : Gr r) :
    obS l rd a nest = some (p, .nil, a + bl.length + (atomT p).length) := by
  obtain ⟨⟨a1, a2, a3, a4, a5⟩, hk⟩ := flat_pay hf
  have hks : p.keys = [] := by rcases a4 with h | h; exact absurd h h7; exact h
  rcases hk with k | k | ⟨k, kb⟩ | ⟨k, kb, km⟩ | ⟨k, kn⟩ | k | k | ⟨k, _, _⟩ | ⟨k, kb⟩
  · have e : p = zp 0 false 0 := by
      obtain ⟨kd, fl, nm, tx, ks⟩ := p
      simp only at *
      subst k hks
      simp at a1 a2 a3
      subst a1 a2 a3
      rfl
    subst e
    have e : atomT (zp 0 false 0) = [110, 117, 108, 108] := rfl
    rw [e] at h ⊢
    rw [ob_wd1 l rd a nest bl 110 [117, 108, 108] r h hb (by decide) hr.endOk]
    rfl
  · have e : p = zp 1 p.flag 0 := by
      obtain ⟨kd, fl, nm, tx, ks⟩ := p
      simp only at *
      subst k hks
      simp at a2 a3
      subst a2 a3
      rfl
    generalize p.flag = fl at e
    subst e
    cases fl
    · have e : atomT (zp 1 false 0) = [102, 97, 108, 115, 101] := rfl
      rw [e] at h ⊢
      rw [ob_wd1 l rd a nest bl 102 [97, 108, 115, 101] r h hb (by decide) hr.endOk]
      rfl
    · have e : atomT (zp 1 true 0) = [116, 114, 117, 101] := rfl
      rw [e] at h ⊢
      rw [ob_wd1 l rd a nest bl 116 [114, 117, 101] r h hb (by decide) hr.endOk]
      rfl
  · have e : p = zp 2 false p.num := by
      obtain ⟨kd, fl, nm, tx, ks⟩ := p
      simp only at *
      subst k hks
      simp at a1 a3
      subst a1 a3
      rfl
    generalize p.num = x at e kb
    subst e
    obtain ⟨c, u, e, hc, hu⟩ := intT_form x
    have ea : atomT (zp 2 false x) = c :: u := e
    rw [ea] at h ⊢
    rw [ob_wd1 l rd a nest bl c u r h hb (fun d hd => num_end (hu d hd)) hr.endOk, wd_int (r := r) hc (by rw [← e]; exact ai_intT x kb), hr.nr l _ (by
      have := drop_on (drop_on h)
      rwa [Nat.add_assoc] at this ⊢)]
    rfl
  · have e : p = zp 3 false p.num := by
      obtain ⟨kd, fl, nm, tx, ks⟩ := p
      simp only at *
      subst k hks
      simp at a1 a3
      subst a1 a3
      rfl
    generalize p.num = x at e kb km
    subst e
    obtain ⟨c, u, e, hc, hu⟩ := textL_form x
    obtain ⟨b1, b2⟩ := D2.back_parse x (inB_of x kb)
    have ea : atomT (zp 3 false x) = c :: u := e
    rw [ea] at h ⊢
    obtain ⟨n1, n2, n3⟩ := num_ne hc
    rw [ob_wd1 l rd a nest bl c u r h hb (fun d hd => num_end (hu d hd)) hr.endOk]
    unfold wdP
    rw [if_neg (by intro e; injection e with e _; exact n1 e), if_neg (by intro e; injection e with e _; exact n2 e), if_neg (by intro e; injection e with e _; exact n3 e), ← e, ai_textL x km]
    simp only [b1, b2, if_true]
    rfl
  · have e : p = ⟨4, false, 0, p.text, []⟩ := by
      obtain ⟨kd, fl, nm, tx, ks⟩ := p
      simp only at *
      subst k hks
      simp at a1 a2
      subst a1 a2
      rfl
    have ea : atomT p = nameT p.text.data.toList := by unfold atomT; rw [k]; rfl
    rw [ea] at h ⊢
    unfold nameT at h ⊢
    have e1 : blanksV l a = a + bl.length := blanks_on h hb (run_stop _ _ _ (by decide))
    have d1 := drop_on h
    have d2 := drop_one (r := p.text.data.toList.flatMap nchT ++ r) (by simpa using d1)
    unfold obS
    rw [e1, pre_ne d1 (by decide), pre_ne d1 (by decide), pre_ne d1 (by decide), pre_ne d1 (by decide), pre_eq d1, d2, nm_on _ _ _ hr.endOk]
    simp only [Bool.false_eq_true, if_false, if_true, Option.map_some, Option.some.injEq, Prod.mk.injEq, List.length_cons, true_and]
    refine ⟨?_, by omega⟩
    exact tp_text e
  · have e : p = ⟨5, false, 0, p.text, []⟩ := by
      obtain ⟨kd, fl, nm, tx, ks⟩ := p
      simp only at *
      subst k hks
      simp at a1 a2
      subst a1 a2
      rfl
    have ea : atomT p = strT p.text.data.toList := by unfold atomT; rw [k]; rfl
    rw [ea] at h ⊢
    unfold strT at h ⊢
    cases hrd : readB p.text.data.toList
    · rw [hrd] at h
      simp only [Bool.false_eq_true, if_false] at h ⊢
      have e1 : blanksV l a = a + bl.length := blanks_on h hb (run_stop _ _ _ (by decide))
      have d1 := drop_on h
      have d2 := drop_one (r := p.text.data.toList.flatMap hexT ++ 62 :: r) (by simpa using d1)
      have n2 : Lib.hasPrefix (l.drop (a + bl.length)) [60, 60] = false := by
        rw [d1]
        cases ht : p.text.data.toList with
        | nil => rfl
        | cons c t =>
          have := (up_ne ⟨c.toNat / 16, by have := c.toNat_lt; omega⟩).2
          simp only [List.flatMap_cons, hexT, List.cons_append, Lib.hasPrefix, List.isPrefixOf]
          simp only [beq_self_eq_true, Bool.true_and, Bool.and_true, beq_eq_false_iff_ne]
          exact fun e => this e.symm
      unfold obS
      rw [e1, n2, pre_ne d1 (by decide), pre_eq d1, d2, dig_on]
      simp only [Bool.false_eq_true, if_false, if_true, Option.map_some, Option.some.injEq, Prod.mk.injEq, List.length_cons, List.length_append, List.length_nil, true_and]
      refine ⟨?_, by omega⟩
      exact tp_text e
    · rw [hrd] at h
      simp only [if_true] at h ⊢
      have e1 : blanksV l a = a + bl.length := blanks_on h hb (run_stop _ _ _ (by decide))
      have d1 := drop_on h
      have d2 := drop_one (r := p.text.data.toList.flatMap schT ++ 41 :: r) (by simpa using d1)
      unfold obS
      rw [e1, pre_ne d1 (by decide), pre_ne d1 (by decide), pre_ne d1 (by decide), pre_eq d1, d2, quo_on]
      simp only [Bool.false_eq_true, if_false, if_true, Option.map_some, Option.some.injEq, Prod.mk.injEq, List.length_cons, List.length_append, List.length_nil, true_and]
      refine ⟨?_, by omega⟩
      exact tp_text e
  · exact absurd k h6
  · exact absurd k h7
  · have e : p = zp 8 false p.num := by
      obtain ⟨kd, fl, nm, tx, ks⟩ := p
      simp only at *
      subst k hks
      simp at a1 a3
      subst a1 a3
      rfl
    generalize p.num = x at e kb
    subst e
    obtain ⟨c, u, e, hc, hu⟩ := intT_form x
    have ea : atomT (zp 8 false x) = (c :: u) ++ [32, 48, 32, 82] := by rw [← e]; rfl
    rw [ea] at h ⊢
    have h' : l.drop a = bl ++ (c :: u ++ (32 :: 48 :: 32 :: 82 :: r)) := by rw [h]; simp
    rw [ob_wd1 l rd a nest bl c u _ h' hb (fun d hd => num_end (hu d hd)) (end_cons (by decide)), wd_int (r := r) hc (by rw [← e]; exact ai_intT x (by omega)), ref_on (r := r) (by
      have := drop_on (drop_on h')
      rwa [Nat.add_assoc] at this ⊢) hr.endOk]
    simp
    omega

def strip : BT Pay → BT Pay
  | .nil => .nil
  | .node _ _ p T N => .node 0 0 p (strip T) (strip N)
theorem strip_len : ∀ T : BT Pay, flen (strip T) = flen T
  | .nil => rfl
  | .node _ _ p T N => by rw [strip, flen, flen, strip_len N]
theorem strip_good : ∀ (T : BT Pay) (nest n : Int), goodF (strip T) nest n = goodF T nest n
  | .nil, _, _ => rfl
  | .node b o p T N, nest, n => by
    have h : ∀ nest n, goodV p (strip T) nest n = goodV p T nest n := fun nest n => by
      unfold goodV
      rw [strip_len, show goodF (strip T) = goodF T from funext fun a => funext fun b => strip_good T a b]
    rw [strip, goodF_node, goodF_node, h, strip_good N]
theorem strip_goodV (p : Pay) (T : BT Pay) (nest n : Int) : goodV p (strip T) nest n = goodV p T nest n := by
  unfold goodV
  rw [strip_len, show goodF (strip T) = goodF T from funext fun a => funext fun b => strip_good T a b]
/- how an object's text begins -/
theorem obj_head {p : Pay} {T : BT Pay} (hf : fine p T) : ∃ c u, objT p T = c :: u ∧ isBl c.toNat = false ∧ c ≠ 93 ∧ c ≠ 62 ∧ c ≠ 82 ∧ (c ≠ 48 ∨ u = [] ∨ ∃ d u', u = d :: u' ∧ isEnd d.toNat = false) := by
  have numc : ∀ {c : UInt8}, c = 45 ∨ (48 ≤ c.toNat ∧ c.toNat ≤ 57) → isBl c.toNat = false ∧ c ≠ 93 ∧ c ≠ 62 ∧ c ≠ 82 := fun {c} h => by
    refine ⟨(end_bl (num_end (by rcases h with h | h; exact Or.inl h; exact Or.inr (Or.inr h)))).1, ?_, ?_, ?_⟩ <;> rintro rfl <;> revert h <;> decide
  unfold objT objV
  by_cases h6 : p.kind = 6
  · rw [if_pos h6]; exact ⟨91, _, rfl, by decide, by decide, by decide, by decide, Or.inl (by decide)⟩
  by_cases h7 : p.kind = 7
  · rw [if_neg h6, if_pos h7]; exact ⟨60, _, rfl, by decide, by decide, by decide, by decide, Or.inl (by decide)⟩
  rw [if_neg h6, if_neg h7]
  obtain ⟨_, hk⟩ := flat_pay hf.1
  rcases hk with k | k | ⟨k, kb⟩ | ⟨k, kb, km⟩ | ⟨k, kn⟩ | k | k | ⟨k, _, _⟩ | ⟨k, kb⟩
  · rw [show atomT p = [110, 117, 108, 108] by unfold atomT; rw [k]; rfl]
    exact ⟨_, _, rfl, by decide, by decide, by decide, by decide, Or.inl (by decide)⟩
  · rw [show atomT p = boolT p.flag by unfold atomT; rw [k]; rfl]
    cases p.flag
    · exact ⟨_, _, rfl, by decide, by decide, by decide, by decide, Or.inl (by decide)⟩
    · exact ⟨_, _, rfl, by decide, by decide, by decide, by decide, Or.inl (by decide)⟩
  · rw [show atomT p = intT p.num by unfold atomT; rw [k]; rfl]
    obtain ⟨c, u, e, hc, hu⟩ := intT_form p.num
    obtain ⟨n1, n2, n3, n4⟩ := numc hc
    refine ⟨c, u, e, n1, n2, n3, n4, ?_⟩
    rcases intT_zero p.num with h | ⟨c', u', h, hne⟩
    · rw [e] at h; injection h with _ h; exact Or.inr (Or.inl h)
    · rw [e] at h; injection h with h _; exact Or.inl (by rw [h]; exact hne)
  · rw [show atomT p = D2.textL p.num by unfold atomT; rw [k]; rfl]
    obtain ⟨c, u, e, hc, hu⟩ := textL_form p.num
    obtain ⟨n1, n2, n3, n4⟩ := numc hc
    refine ⟨c, u, e, n1, n2, n3, n4, ?_⟩
    obtain ⟨c', u', h, hne⟩ := textL_zero p.num km
    rw [e] at h
    injection h with h1 h2
    subst h1 h2
    rcases hne with h | h
    · exact Or.inl h
    · exact Or.inr (Or.inr h)
  · rw [show atomT p = nameT p.text.data.toList by unfold atomT; rw [k]; rfl]
    exact ⟨47, _, rfl, by decide, by decide, by decide, by decide, Or.inl (by decide)⟩
  · rw [show atomT p = strT p.text.data.toList by unfold atomT; rw [k]; rfl]
    unfold strT
    split
    · exact ⟨40, _, rfl, by decide, by decide, by decide, by decide, Or.inl (by decide)⟩
    · exact ⟨60, _, rfl, by decide, by decide, by decide, by decide, Or.inl (by decide)⟩
  · exact absurd k h6
  · exact absurd k h7
  · rw [show atomT p = intT p.num ++ [32, 48, 32, 82] by unfold atomT; rw [k]; rfl]
    obtain ⟨c, u, e, hc, hu⟩ := intT_form p.num
    obtain ⟨n1, n2, n3, n4⟩ := numc hc
    refine ⟨c, u ++ [32, 48, 32, 82], by rw [e]; rfl, n1, n2, n3, n4, ?_⟩
    exact Or.inl (by
      obtain ⟨c', u', h, hne⟩ := intT_pos p.num kb.1
      rw [e] at h; injection h with h _; rw [h]; exact hne)
theorem gr_obj {b : UInt8} {bl r : List UInt8} {p : Pay} {T : BT Pay} (hf : fine p T) (h0 : isBl b.toNat = true) (hb : Bls bl) (hr : Gr r) : Gr (b :: bl ++ (objT p T ++ r)) := by
  obtain ⟨c, u, e, n1, n2, n3, n4, h⟩ := obj_head hf
  rw [e]
  refine gr_more h0 hb n1 n4 ?_
  rcases h with h | h | ⟨d, u', h, hd⟩
  · exact Or.inl h
  · subst h; exact Or.inr (Or.inl hr.hr)
  · subst h; exact Or.inr (Or.inr ⟨d, u' ++ r, rfl, hd⟩)
theorem gr_for {e : List UInt8} (he : Gr e) (d : Bool) : ∀ (N : BT Pay) (ks : List ByteArray), fineF N → Gr (forT N d ks false ++ e)
  | .nil, _, _ => he
  | .node b o p T N, ks, hf => by
    have ih := gr_for he d N ks.tail hf.2
    rw [forT_node]
    cases d
    · have := gr_obj (b := 32) (bl := []) hf.1 (by decide) (by simp [Bls]) ih
      simpa using this
    · have := gr_more (b := 32) (bl := []) (c := 47) (u := (ks.headD ByteArray.empty).data.toList.flatMap nchT ++ [32] ++ (objT p T ++ forT N true ks.tail false)) (r := e) (by decide) (by simp [Bls]) (by decide) (by decide) (Or.inl (by decide))
      simpa [nameT] using this
/- what is written is read -/
def LiOn (l : List UInt8) (T : BT Pay) : Prop := ∀ (f k nest : Nat) (first : Bool) (r : List UInt8), l.drop k = forT T false [] first ++ (93 :: r) → fineF T → (forT T false [] first).length + 1 ≤ f → (rec5 l f).li k nest = some (strip T, k + (forT T false [] first).length + 1)
def DiOn (l : List UInt8) (T : BT Pay) : Prop := ∀ (ks : List ByteArray) (f k nest : Nat) (first : Bool) (r : List UInt8), ks.length = flen T → l.drop k = forT T true ks first ++ (62 :: 62 :: r) → fineF T → (forT T true ks first).length + 2 ≤ f → (rec5 l f).di k nest = some (ks, strip T, k + (forT T true ks first).length + 2)
def ObOn (l : List UInt8) (p : Pay) (T : BT Pay) : Prop := ∀ (f a nest : Nat) (bl r : List UInt8), l.drop a = bl ++ (objT p T ++ r) → Bls bl → fine p T → Gr r → (objT p T).length ≤ f → (rec5 l f).ob a nest = some (p, strip T, a + bl.length + (objT p T).length)
theorem ob_of {l : List UInt8} {p : Pay} {T : BT Pay} (hl : LiOn l T) (hd : DiOn l T) : ObOn l p T := by
  intro f a nest bl r h hb hf hr hlen
  obtain ⟨⟨a1, a2, a3, a4, a5⟩, hk⟩ := flat_pay hf.1
  have hpos : 0 < (objT p T).length := by obtain ⟨c, u, e, _⟩ := obj_head hf; rw [e]; simp
  obtain ⟨f, rfl⟩ : ∃ g, f = g + 1 := ⟨f - 1, by omega⟩
  rw [ob_succ]
  by_cases h6 : p.kind = 6
  · have e : p = arrP := by
      obtain ⟨kd, fl, nm, tx, ks⟩ := p
      simp only at *
      subst h6
      simp at a1 a2 a3 a4
      subst a1 a2 a3 a4
      rfl
    have eo : objT p T = 91 :: (forT T false [] true ++ [93]) := by unfold objT objV; rw [if_pos h6]
    rw [eo] at h hlen ⊢
    have e1 : blanksV l a = a + bl.length := blanks_on h hb (run_stop _ _ _ (by decide))
    have d1 := drop_on h
    have d2 := drop_one (r := forT T false [] true ++ 93 :: r) (by simpa using d1)
    unfold obS
    rw [e1, pre_ne d1 (by decide), pre_eq d1, hl f _ _ true r d2 hf.2 (by simp at hlen; omega)]
    simp only [Bool.false_eq_true, if_false, if_true, Option.map_some, Option.some.injEq, Prod.mk.injEq, List.length_cons, List.length_append, List.length_nil, true_and]
    exact ⟨e.symm, by omega⟩
  by_cases h7 : p.kind = 7
  · have e : p = kp p.keys := by
      obtain ⟨kd, fl, nm, tx, ks⟩ := p
      simp only at *
      subst h7
      simp at a1 a2 a3
      subst a1 a2 a3
      rfl
    have hkl : p.keys.length = flen T := by
      rcases hk with k | k | ⟨k, kb⟩ | ⟨k, kb, km⟩ | ⟨k, kn⟩ | k | k | ⟨k, k1, k2⟩ | ⟨k, kb⟩
      · omega
      · omega
      · omega
      · omega
      · omega
      · omega
      · omega
      · exact k1
      · omega
    have eo : objT p T = 60 :: 60 :: (forT T true p.keys true ++ [62, 62]) := by unfold objT objV; rw [if_neg h6, if_pos h7]
    rw [eo] at h hlen ⊢
    have e1 : blanksV l a = a + bl.length := blanks_on h hb (run_stop _ _ _ (by decide))
    have d1 := drop_on h
    have d2 := drop_one (r := forT T true p.keys true ++ 62 :: 62 :: r) (drop_one (by simpa using d1))
    have n2 : Lib.hasPrefix (l.drop (a + bl.length)) [60, 60] = true := by rw [d1]; simp [Lib.hasPrefix, List.isPrefixOf]
    unfold obS
    rw [e1, n2, if_pos rfl, hd p.keys f _ _ true r hkl d2 hf.2 (by simp at hlen; omega)]
    simp only [Option.map_some, Option.some.injEq, Prod.mk.injEq, List.length_cons, List.length_append, List.length_nil, true_and]
    exact ⟨e.symm, by omega⟩
  · have eo : objT p T = atomT p := by unfold objT objV; rw [if_neg h6, if_neg h7]
    have hT : T = .nil := by
      rcases a5 with h | h | h
      · exact absurd h h6
      · exact absurd h h7
      · exact flen_zero h
    subst hT
    rw [eo] at h ⊢
    exact ob_leaf hf.1 h6 h7 l _ a nest bl r h hb hr
theorem li_di (l : List UInt8) : ∀ T : BT Pay, LiOn l T ∧ DiOn l T
  | .nil => by
    refine ⟨fun f k nest first r h _ hf => ?_, fun ks f k nest first r hk h _ hf => ?_⟩
    · obtain ⟨f, rfl⟩ : ∃ g, f = g + 1 := ⟨f - 1, by omega⟩
      have h : l.drop k = 93 :: r := h
      have e1 : blanksV l k = k := blanks_on (bl := []) h (by simp [Bls]) (run_stop _ _ _ (by decide))
      rw [li_succ]
      unfold liS
      rw [e1, pre_eq h, if_pos rfl]
      rfl
    · obtain ⟨f, rfl⟩ : ∃ g, f = g + 1 := ⟨f - 1, by omega⟩
      obtain rfl : ks = [] := List.eq_nil_of_length_eq_zero hk
      have h : l.drop k = 62 :: 62 :: r := h
      have e1 : blanksV l k = k := blanks_on (bl := []) h (by simp [Bls]) (run_stop _ _ _ (by decide))
      rw [di_succ]
      unfold diS
      rw [e1, show Lib.hasPrefix (l.drop k) [62, 62] = true by rw [h]; simp [Lib.hasPrefix, List.isPrefixOf], if_pos rfl]
      rfl
  | .node b o p T N => by
    have hT := li_di l T
    have hN := li_di l N
    have hO : ObOn l p T := ob_of hT.1 hT.2
    refine ⟨fun f k nest first r h hf hlen => ?_, fun ks f k nest first r hk h hf hlen => ?_⟩
    · obtain ⟨f, rfl⟩ : ∃ g, f = g + 1 := ⟨f - 1, by omega⟩
      obtain ⟨c, u, eo, n1, n2, n3, n4, _⟩ := obj_head hf.1
      rw [forT_node] at h hlen ⊢
      simp only [Bool.false_eq_true, if_false, List.nil_append, List.tail_nil] at h hlen ⊢
      have h : l.drop k = (if first = true then [] else [32]) ++ (objT p T ++ (forT N false [] false ++ (93 :: r))) := by rw [h]; simp
      have hs : Bls (if first = true then ([] : List UInt8) else [32]) := by cases first <;> simp [Bls, isBl]
      have e1 : blanksV l k = k + (if first = true then ([] : List UInt8) else [32]).length := blanks_on h hs (by rw [eo]; exact run_stop _ _ _ n1)
      have d1 := drop_on h
      have hg : Gr (forT N false [] false ++ (93 :: r)) := gr_for (gr_head (by decide) (by decide)) false N [] hf.2
      have hpos : 0 < (objT p T).length := by rw [eo]; simp
      have hO := hO f (blanksV l k) nest [] _ (by rw [e1]; exact d1) (by simp [Bls]) hf.1 hg (by simp at hlen; omega)
      rw [li_succ]
      unfold liS
      rw [e1] at hO ⊢
      rw [pre_ne (l := l.drop (k + _)) (c := c) (r := u ++ (forT N false [] false ++ (93 :: r))) (by rw [d1, eo]; rfl) n2, hO]
      simp only [Bool.false_eq_true, if_false, List.length_nil, Nat.add_zero]
      rw [hN.1 f _ nest false r (drop_on d1) hf.2 (by simp at hlen; omega)]
      simp only [Option.some.injEq, Prod.mk.injEq, List.length_append, strip, true_and]
      omega
    · obtain ⟨f, rfl⟩ : ∃ g, f = g + 1 := ⟨f - 1, by omega⟩
      obtain ⟨c, u, eo, n1, n2, n3, n4, _⟩ := obj_head hf.1
      cases ks with
      | nil => simp [flen] at hk
      | cons key ks =>
      rw [forT_node] at h hlen ⊢
      simp only [if_true, List.headD_cons, List.tail_cons] at h hlen ⊢
      unfold nameT at h hlen ⊢
      have h : l.drop k = (if first = true then [] else [32]) ++ (47 :: (key.data.toList.flatMap nchT ++ ([32] ++ (objT p T ++ (forT N true ks false ++ (62 :: 62 :: r)))))) := by rw [h]; simp
      have hs : Bls (if first = true then ([] : List UInt8) else [32]) := by cases first <;> simp [Bls, isBl]
      have e1 : blanksV l k = k + (if first = true then ([] : List UInt8) else [32]).length := blanks_on h hs (run_stop _ _ _ (by decide))
      have d1 := drop_on h
      have d2 := drop_one d1
      have d3 := drop_on d2
      have d4 := drop_on (drop_on d3)
      have hg : Gr (forT N true ks false ++ (62 :: 62 :: r)) := gr_for (gr_head (by decide) (by decide)) true N ks hf.2
      have hO := hO f _ nest [32] _ d3 (by simp [Bls, isBl]) hf.1 hg (by simp at hlen; omega)
      rw [di_succ]
      unfold diS
      rw [e1, pre_ne d1 (by decide), pre_eq d1, d2, nm_on _ ([32] ++ _) _ (end_cons (c := 32) (by decide))]
      simp only [Bool.false_eq_true, if_false, if_true]
      rw [hO]
      simp only
      rw [hN.2 ks f _ nest false r (by simpa [flen] using hk) d4 hf.2 (by simp at hlen; omega)]
      simp only [Option.some.injEq, Prod.mk.injEq, List.length_append, List.length_cons, List.length_nil, strip, true_and]
      omega
theorem ob_on (l : List UInt8) (p : Pay) (T : BT Pay) : ObOn l p T := ob_of (li_di l T).1 (li_di l T).2
end Go.Proofs.YtalmcdbdibpgkaaGreatDoor
