/-
  Joined: O5Qeq, O5Qer, O5Qew, O5Qnu, O5Qae, O5Qbo.
-/
import Derived.Test.YtalmcdbdibpgkaaGreatDoorBX
import Derived.Test.YtalmcdbdibpgkaaGreatDoorBI
import Derived.Lib.AtoiTie
import Derived.Lib.ItoaMem
/-
  What the landed reader reads and what the reference's reads is the same, where it is good; over words.
-/
namespace Go.Proofs.YtalmcdbdibpgkaaGreatDoor
open Go.RowKit Go.Deep
set_option linter.unusedVariables false

def fV (nest n : Int) (R : Option (Pay × BT Pay × Nat)) : Option (Pay × BT Pay × Nat) := match R with
  | none => none
  | some (p, T, q) => if 0 ≤ goodV p T nest n then some (p, T, q) else none
def fF (nest n : Int) (R : Option (BT Pay × Nat)) : Option (BT Pay × Nat) := match R with
  | none => none
  | some (T, q) => if 0 ≤ goodF T nest n then some (T, q) else none
def keysN (ks : List ByteArray) : Bool := ks.all fun k => nameB k.data.toList
def fD (nest n : Int) (R : Option (List ByteArray × BT Pay × Nat)) : Option (List ByteArray × BT Pay × Nat) := match R with
  | none => none
  | some (ks, T, q) => if keysN ks = true ∧ 0 ≤ goodF T nest n then some (ks, T, q) else none
theorem goodV_full (p : Pay) (T : BT Pay) (nest n : Int) (hn : 65535 < n) : goodV p T nest n = -1 := by
  unfold goodV gV
  rw [if_pos (Or.inl (by omega))]
theorem keysB_all : ∀ (ks : List ByteArray) (seen : List (List UInt8)), keysB seen ks = true → keysN ks = true := fun ks seen h => by
  have := (keysB_iff ks seen).1 h
  unfold keysN
  rw [List.all_eq_true]
  intro x hx
  obtain ⟨i, hi, rfl⟩ := List.getElem_of_mem hx
  have := (this i hi).1
  rwa [show ks.getD i ByteArray.empty = ks[i] by simp [List.getD, hi]] at this
theorem fV_arr (nest n : Int) (X : Option (BT Pay × Nat)) (hn : n ≤ 65535) : fV nest n (X.map fun q => (arrP, q.1, q.2)) = fV nest n ((fF (nest + 1) (n + 1) X).map fun q => (arrP, q.1, q.2)) := by
  rcases X with _ | ⟨T, q⟩
  · rfl
  · unfold fF
    dsimp only
    split
    · rfl
    · rename_i h
      show (if _ then _ else _) = _
      rw [if_neg]
      · rfl
      · rw [goodV_cont _ _ _ _ hn rfl]
        split
        · exact h
        · omega
theorem fV_kp (nest n : Int) (X : Option (List ByteArray × BT Pay × Nat)) (hn : n ≤ 65535) : fV nest n (X.map fun q => (kp q.1, q.2.1, q.2.2)) = fV nest n ((fD (nest + 1) (n + 1) X).map fun q => (kp q.1, q.2.1, q.2.2)) := by
  rcases X with _ | ⟨ks, T, q⟩
  · rfl
  · unfold fD
    dsimp only
    split
    · rfl
    · rename_i h
      show (if _ then _ else _) = _
      rw [if_neg]
      · rfl
      · rw [goodV_cont _ _ _ _ hn rfl]
        split
        · rename_i h2
          intro h3
          refine h ⟨?_, h3⟩
          have := h2.1
          unfold flatV at this
          simp at this
          exact keysB_all ks [] this.2.2
        · omega
def stL (X : Option (Pay × BT Pay × Nat)) (g : Nat → Option (BT Pay × Nat)) : Option (BT Pay × Nat) := match X with
  | none => none
  | some (p, T, q) => match g q with
    | none => none
    | some (N, e) => some (.node 0 0 p T N, e)
theorem fF_st (nest n : Int) (X : Option (Pay × BT Pay × Nat)) (g : Nat → Option (BT Pay × Nat)) : fF nest n (stL X g) = match fV nest n X with
  | none => none
  | some (p, T, q) => (fF nest (goodV p T nest n) (g q)).map fun x => (.node 0 0 p T x.1, x.2) := by
  rcases X with _ | ⟨p, T, q⟩
  · rfl
  · unfold stL fV
    dsimp only
    by_cases h : 0 ≤ goodV p T nest n
    · rw [if_pos h]
      dsimp only
      rcases g q with _ | ⟨N, e⟩
      · rfl
      · unfold fF
        dsimp only
        rw [goodF_node, show (if goodV p T nest n < 0 then (-1 : Int) else goodF N nest (goodV p T nest n)) = goodF N nest (goodV p T nest n) from if_neg (by omega)]
        split <;> rfl
    · rw [if_neg h]
      dsimp only
      rcases g q with _ | ⟨N, e⟩
      · rfl
      · unfold fF
        dsimp only
        rw [goodF_node, show (if goodV p T nest n < 0 then (-1 : Int) else goodF N nest (goodV p T nest n)) = -1 from if_pos (by omega), if_neg (by omega)]
def stD (key : List UInt8) (X : Option (Pay × BT Pay × Nat)) (g : Nat → Option (List ByteArray × BT Pay × Nat)) : Option (List ByteArray × BT Pay × Nat) := match X with
  | none => none
  | some (p, T, q) => match g q with
    | none => none
    | some (ks, N, e) => some (⟨key.toArray⟩ :: ks, .node 0 0 p T N, e)
theorem keysN_cons (key : List UInt8) (ks : List ByteArray) : keysN (⟨key.toArray⟩ :: ks) = (nameB key && keysN ks) := by simp [keysN]
theorem fD_st (nest n : Int) (key : List UInt8) (X : Option (Pay × BT Pay × Nat)) (g : Nat → Option (List ByteArray × BT Pay × Nat)) : fD nest n (stD key X g) = if nameB key = true then (match fV nest n X with
  | none => none
  | some (p, T, q) => (fD nest (goodV p T nest n) (g q)).map fun x => (⟨key.toArray⟩ :: x.1, .node 0 0 p T x.2.1, x.2.2)) else none := by
  rcases X with _ | ⟨p, T, q⟩
  · unfold stD fV fD
    dsimp only
    split <;> rfl
  · unfold stD fV
    dsimp only
    by_cases hk : nameB key = true
    · rw [if_pos hk]
      by_cases h : 0 ≤ goodV p T nest n
      · rw [if_pos h]
        dsimp only
        rcases g q with _ | ⟨ks, N, e⟩
        · rfl
        · unfold fD
          dsimp only
          rw [keysN_cons, hk, Bool.true_and, goodF_node, show (if goodV p T nest n < 0 then (-1 : Int) else goodF N nest (goodV p T nest n)) = goodF N nest (goodV p T nest n) from if_neg (by omega)]
          split <;> rfl
      · rw [if_neg h]
        dsimp only
        rcases g q with _ | ⟨ks, N, e⟩
        · rfl
        · unfold fD
          dsimp only
          rw [goodF_node, show (if goodV p T nest n < 0 then (-1 : Int) else goodF N nest (goodV p T nest n)) = -1 from if_pos (by omega), if_neg (by omega)]
    · rw [if_neg hk]
      rcases g q with _ | ⟨ks, N, e⟩
      · rfl
      · unfold fD
        dsimp only
        rw [keysN_cons, if_neg (by simp [hk])]
end Go.Proofs.YtalmcdbdibpgkaaGreatDoor
/-
  The two readers read the same, where it is good; over words.
-/
namespace Go.Proofs.YtalmcdbdibpgkaaGreatDoor
open Go.RowKit Go.Deep
set_option linter.unusedVariables false

theorem run_run (p : Nat → Bool) : ∀ l : List UInt8, run p (l.drop (run p l)) = 0
  | [] => rfl
  | c :: l => by
    by_cases h : p c.toNat = true
    · rw [show run p (c :: l) = 1 + run p l by simp [run, h], Nat.add_comm, List.drop_succ_cons]
      exact run_run p l
    · rw [show run p (c :: l) = 0 by simp [run, h], List.drop_zero]
      simp [run, h]
theorem blanks_idem (l : List UInt8) (a : Nat) : blanksV l (blanksV l a) = blanksV l a := by
  unfold blanksV
  rw [← List.drop_drop, run_run]
  omega
abbrev lf (q : Pay × Nat) : Pay × BT Pay × Nat := (q.1, .nil, q.2)
def AtEq (s : ByteArray) : Prop := ∀ (A : Nat) (nest n : Int), A ≤ s.size → 0 ≤ n → n ≤ 65535 → fV nest n ((wdV s.data.toList A).map fun q => (q.1, .nil, q.2)) = fV nest n ((atV s.data.toList A).map fun q => (q.1, .nil, q.2))
theorem fV_full (nest n : Int) (hn : 65535 < n) (X : Option (Pay × BT Pay × Nat)) : fV nest n X = none := by
  rcases X with _ | ⟨p, T, q⟩
  · rfl
  · unfold fV
    dsimp only
    rw [goodV_full p T nest n hn, if_neg (by omega)]
theorem fV_deep (nest n : Int) (hd : 32 < nest + 1) {α : Type} (X : Option α) (F : α → Pay × BT Pay × Nat) (hc : ∀ x, cont (F x).1 = true) : fV nest n (X.map F) = none := by
  rcases X with _ | x
  · rfl
  · show fV nest n (some (F x)) = none
    have h := hc x
    generalize F x = r at h
    obtain ⟨p, T, q⟩ := r
    have h : cont p = true := h
    unfold fV
    dsimp only
    rw [if_neg]
    unfold goodV gV
    split
    · omega
    · omega
theorem fV_name (nest n : Int) (hn : n ≤ 65535) (R : Option (List UInt8 × Nat)) : fV nest n (R.map fun q => (tp 4 q.1, .nil, q.2)) = fV nest n (match R with
    | none => none
    | some (t, q) => if nameB t = true then some (tp 4 t, .nil, q) else none) := by
  rcases R with _ | ⟨t, q⟩
  · rfl
  · dsimp only
    by_cases hb : nameB t = true
    · rw [if_pos hb]; rfl
    · rw [if_neg hb]
      show (if 0 ≤ goodV (tp 4 t) .nil nest n then _ else _) = _
      rw [if_neg]
      · rfl
      · rw [goodV_leaf _ _ _ hn rfl, if_neg]
        · omega
        · unfold flatV
          simp [hb]
theorem eq_all (s : ByteArray) (hA : AtEq s) : ∀ f, (∀ (a nest : Nat) (n : Int), a ≤ s.size → nest ≤ 32 → 0 ≤ n → n ≤ 65536 → fV nest n ((rec5 s.data.toList f).ob a nest) = fV nest n ((recQ s.data.toList f).ob (blanksV s.data.toList a) nest)) ∧
    (∀ (a nest : Nat) (n : Int), a ≤ s.size → nest ≤ 32 → 0 ≤ n → n ≤ 65536 → fF nest n ((rec5 s.data.toList f).li a nest) = fF nest n ((recQ s.data.toList f).li a nest)) ∧
    (∀ (a nest : Nat) (n : Int), a ≤ s.size → nest ≤ 32 → 0 ≤ n → n ≤ 65536 → fD nest n ((rec5 s.data.toList f).di a nest) = fD nest n ((recQ s.data.toList f).di a nest))
  | 0 => ⟨fun _ _ _ _ _ _ _ => rfl, fun _ _ _ _ _ _ _ => rfl, fun _ _ _ _ _ _ _ => rfl⟩
  | f + 1 => by
    obtain ⟨i1, i2, i3⟩ := eq_all s hA f
    have hl : s.data.toList.length = s.size := (Lib.size_eq s).symm
    have step : ∀ (b nest : Nat) (n : Int), b ≤ s.size → blanksV s.data.toList b = b → nest ≤ 32 → 0 ≤ n → n ≤ 65536 → fV nest n ((rec5 s.data.toList f).ob b nest) = fV nest n ((recQ s.data.toList f).ob b nest) := fun b nest n h1 h2 h3 h4 h5 => by
      have := i1 b nest n h1 h3 h4 h5
      rwa [h2] at this
    have fbd : ∀ (b nest : Nat) (n : Int) p T q, fV nest n ((recQ s.data.toList f).ob b nest) = some (p, T, q) → q ≤ s.size ∧ 0 ≤ goodV p T nest n := fun b nest n p T q h => by
      cases hx : (recQ s.data.toList f).ob b nest with
      | none => rw [hx] at h; cases h
      | some r =>
        obtain ⟨p1, T1, q1⟩ := r
        rw [hx] at h
        unfold fV at h
        dsimp only at h
        split at h
        · rename_i h0
          have h5 : q1 = q ∧ p1 = p ∧ T1 = T := by injection h with h; injection h with h1 h; injection h with h2 h3; exact ⟨h3, h1, h2⟩
          obtain ⟨rfl, rfl, rfl⟩ := h5
          exact ⟨((bd_all s f).1 _ _ _ _ _ hx).2, h0⟩
        · cases h
    refine ⟨fun a nest n ha hn h0 h1 => ?_, fun a nest n ha hn h0 h1 => ?_, fun a nest n ha hn h0 h1 => ?_⟩
    · rcases (show 65535 < n ∨ n ≤ 65535 by omega) with h2 | h2
      · rw [fV_full _ _ h2, fV_full _ _ h2]
      have hb := blanks_le s a ha
      show fV nest n (obS s.data.toList (rec5 s.data.toList f) a nest) = fV nest n (obQ s.data.toList (recQ s.data.toList f) (blanksV s.data.toList a) nest)
      unfold obS obQ
      generalize blanksV s.data.toList a = A at hb
      rw [hl]
      by_cases hA2 : A < s.size
      case neg =>
        have hnp : ∀ p : List UInt8, p ≠ [] → ¬ Lib.hasPrefix (s.data.toList.drop A) p = true := fun p hp e => by
          have := hasP_len e
          rw [List.length_drop, hl] at this
          have := List.length_pos_iff.2 hp
          omega
        rw [if_neg (hnp _ (by simp)), if_neg (hnp _ (by simp)), if_neg (hnp _ (by simp)), if_neg (hnp _ (by simp)), if_neg (hnp _ (by simp)), if_pos (Or.inr (by omega)), hA A nest n hb h0 h2]
        cases hx : atV s.data.toList A with
        | none => rfl
        | some r => have := at_bd s A hb r.1 r.2 hx; omega
      rw [if_neg (show ¬ (32 < nest ∨ s.size ≤ A) by omega)]
      have cn : ((nest + 1 : Nat) : Int) = (nest : Int) + 1 := by omega
      by_cases p0 : Lib.hasPrefix (s.data.toList.drop A) [60, 60] = true
      · rw [if_pos p0, if_pos p0]
        rcases Nat.lt_or_ge nest 32 with hd | hd
        · have := i3 (A + 2) (nest + 1) (n + 1) (by obtain ⟨h, _⟩ := (hp_two s _ _ _).1 p0; omega) (by omega) (by omega) (by omega)
          rw [cn] at this
          rw [fV_kp _ _ _ h2, this, ← fV_kp _ _ _ h2]
        · rw [fV_deep _ _ (by omega) _ _ (fun _ => rfl), fV_deep _ _ (by omega) _ _ (fun _ => rfl)]
      rw [if_neg p0, if_neg p0]
      by_cases p1 : Lib.hasPrefix (s.data.toList.drop A) [91] = true
      · rw [if_pos p1, if_pos p1]
        rcases Nat.lt_or_ge nest 32 with hd | hd
        · have := i2 (A + 1) (nest + 1) (n + 1) (by omega) (by omega) (by omega) (by omega)
          rw [cn] at this
          rw [fV_arr _ _ _ h2, this, ← fV_arr _ _ _ h2]
        · rw [fV_deep _ _ (by omega) _ _ (fun _ => rfl), fV_deep _ _ (by omega) _ _ (fun _ => rfl)]
      rw [if_neg p1, if_neg p1]
      by_cases p2 : Lib.hasPrefix (s.data.toList.drop A) [60] = true
      · rw [if_pos p2, if_pos p2]
      rw [if_neg p2, if_neg p2]
      by_cases p3 : Lib.hasPrefix (s.data.toList.drop A) [40] = true
      · rw [if_pos p3, if_pos p3]
      rw [if_neg p3, if_neg p3]
      by_cases p4 : Lib.hasPrefix (s.data.toList.drop A) [47] = true
      · rw [if_pos p4, if_pos p4]
        exact fV_name _ _ h2 _
      rw [if_neg p4, if_neg p4]
      exact hA A nest n hb h0 h2
    · have hb := blanks_le s a ha
      have hid := blanks_idem s.data.toList a
      show fF nest n (liS s.data.toList (rec5 s.data.toList f) a nest) = fF nest n (liS s.data.toList (recQ s.data.toList f) a nest)
      unfold liS
      generalize blanksV s.data.toList a = A at hb hid
      by_cases p0 : Lib.hasPrefix (s.data.toList.drop A) [93] = true
      · rw [if_pos p0, if_pos p0]
      rw [if_neg p0, if_neg p0]
      show fF nest n (stL ((rec5 s.data.toList f).ob A nest) fun q => (rec5 s.data.toList f).li q nest) = fF nest n (stL ((recQ s.data.toList f).ob A nest) fun q => (recQ s.data.toList f).li q nest)
      rw [fF_st, fF_st, step A nest n hb hid hn h0 h1]
      cases hx : fV nest n ((recQ s.data.toList f).ob A nest) with
      | none => rfl
      | some r =>
        obtain ⟨p, T, q⟩ := r
        dsimp only
        have h3 := fbd A nest n p T q hx
        have h4 := goodV_le p T nest n h0 h1
        rw [i2 q nest _ h3.1 hn h3.2 h4.2]
    · have hb := blanks_le s a ha
      show fD nest n (diS s.data.toList (rec5 s.data.toList f) a nest) = fD nest n (diQ s.data.toList (recQ s.data.toList f) a nest)
      unfold diS diQ
      generalize blanksV s.data.toList a = A at hb
      by_cases p0 : Lib.hasPrefix (s.data.toList.drop A) [62, 62] = true
      · rw [if_pos p0, if_pos p0]
      rw [if_neg p0, if_neg p0]
      by_cases p1 : Lib.hasPrefix (s.data.toList.drop A) [47] = true
      case neg => rw [if_neg p1, if_neg p1]
      rw [if_pos p1, if_pos p1]
      cases hm : nmV (s.data.toList.drop (A + 1)) (A + 1) with
      | none => rfl
      | some r =>
        obtain ⟨key, j⟩ := r
        dsimp only
        show fD nest n (stD key ((rec5 s.data.toList f).ob j nest) fun q => (rec5 s.data.toList f).di q nest) = fD nest n (if nameB key = true then stD key ((recQ s.data.toList f).ob (blanksV s.data.toList j) nest) (fun q => (recQ s.data.toList f).di q nest) else none)
        have hAl : A + 1 ≤ s.size := by obtain ⟨h, _⟩ := (hp_byte s _ _).1 p1; omega
        have hj : j ≤ s.size := by
          have h1 := nR_le _ _ _ _ _ _ (Nat.le_refl _) hm
          rw [List.length_drop, hl] at h1
          omega
        rw [fD_st]
        by_cases hk : nameB key = true
        · rw [if_pos hk, if_pos hk, fD_st, if_pos hk, i1 j nest n hj hn h0 h1]
          cases hx : fV nest n ((recQ s.data.toList f).ob (blanksV s.data.toList j) nest) with
          | none => rfl
          | some r =>
            obtain ⟨p, T, q⟩ := r
            dsimp only
            have h3 := fbd _ nest n p T q hx
            have h4 := goodV_le p T nest n h0 h1
            rw [i3 q nest _ h3.1 hn h3.2 h4.2]
        · rw [if_neg hk, if_neg hk]; rfl
end Go.Proofs.YtalmcdbdibpgkaaGreatDoor
/-
  A reference's end: the landed reader's way of it and the reference's.
-/
namespace Go.Proofs.YtalmcdbdibpgkaaGreatDoor
open Go.RowKit Go.Deep
set_option linter.unusedVariables false

theorem run_one (p : Nat → Bool) (c : UInt8) (hc : p c.toNat = true) : ∀ l : List UInt8, l.take (run p l) = [c] ↔ ∃ r, l = c :: r ∧ run p r = 0
  | [] => by simp
  | d :: l => by
    by_cases h : p d.toNat = true
    · rw [show run p (d :: l) = 1 + run p l by simp [run, h], Nat.add_comm, List.take_succ_cons]
      constructor
      · intro e
        injection e with e1 e2
        subst e1
        refine ⟨l, rfl, ?_⟩
        have := congrArg List.length e2
        have h2 := run_le p l
        simp at this
        rcases this with h | h
        · exact h
        · subst h; rfl
      · rintro ⟨r, e, hr⟩
        injection e with e1 e2
        subst e1 e2
        rw [hr]; rfl
    · rw [show run p (d :: l) = 0 by simp [run, h]]
      constructor
      · intro e; cases e
      · rintro ⟨r, e, hr⟩
        injection e with e1 e2
        subst e1
        exact absurd hc h
theorem run_zero_end (l : List UInt8) : run (fun b => !isEnd b) l = 0 ↔ (l = [] ∨ ∃ c r, l = c :: r ∧ isEnd c.toNat = true) := by
  cases l with
  | nil => simp [run]
  | cons c r =>
    cases h : isEnd c.toNat <;> simp [run, h]
abbrev nE (b : Nat) : Bool := !isEnd b
theorem wordV_run (l : List UInt8) (A : Nat) : wordV l A - A = run nE (l.drop A) := by
  show A + run nE (l.drop A) - A = _
  omega
theorem endV_run (l : List UInt8) (k : Nat) : endV l k = true ↔ run nE (l.drop k) = 0 := by
  unfold endV
  cases h : l.drop k with
  | nil => simp [run]
  | cons c r => cases h2 : isEnd c.toNat <;> simp [run, h2]
theorem tw_iff (l : List UInt8) (c : UInt8) (hc : nE c.toNat = true) (A : Nat) : twV l [c] A = true ↔ (l.drop A).take (wordV l A - A) = [c] := by
  rw [wordV_run, run_one nE c hc]
  unfold twV
  rw [Bool.and_eq_true, show A + [c].length = A + 1 from rfl, endV_run, ← List.drop_drop]
  constructor
  · rintro ⟨h1, h2⟩
    cases h : l.drop A with
    | nil => rw [h, hp_nil] at h1; cases h1
    | cons d r =>
      rw [h, hp_one] at h1
      rw [h] at h2
      exact ⟨r, by rw [of_decide_eq_true h1], h2⟩
  · rintro ⟨r, h, h2⟩
    rw [h, hp_one]
    exact ⟨decide_eq_true rfl, h2⟩
theorem tw_word (l : List UInt8) (c : UInt8) (hc : nE c.toNat = true) (A : Nat) (h : twV l [c] A = true) : run nE (l.drop A) = 1 ∧ wordV l A = A + 1 ∧ run nE (l.drop (A + 1)) = 0 := by
  have h1 := (tw_iff l c hc A).1 h
  rw [wordV_run] at h1
  obtain ⟨r, h2, h3⟩ := (run_one nE c hc _).1 h1
  have h4 : run nE (l.drop A) = 1 := by rw [h2]; simp only [run, hc, if_true]; omega
  refine ⟨h4, by unfold wordV; show A + run nE (l.drop A) = _; omega, ?_⟩
  rw [← List.drop_drop, h2]
  exact h3
theorem ref_eq (l : List UInt8) (a : Nat) : refV l (wordV l a) = refQ l (wordV l a) := by
  have hE : run nE (l.drop (wordV l a)) = 0 := by
    unfold wordV
    rw [← List.drop_drop]
    exact run_run nE _
  generalize wordV l a = E at hE
  unfold refV refQ
  have hge := blanks_ge l E
  generalize blanksV l E = A at hge
  by_cases t1 : twV l [48] A = true
  · rw [if_pos t1]
    obtain ⟨w1, w2, w3⟩ := tw_word l 48 (by decide) A t1
    have e1 := (tw_iff l 48 (by decide) A).1 t1
    rw [w2] at e1 ⊢
    have hge2 := blanks_ge l (A + 1)
    generalize blanksV l (A + 1) = C at hge2
    by_cases t2 : twV l [82] C = true
    · rw [if_pos t2]
      obtain ⟨v1, v2, v3⟩ := tw_word l 82 (by decide) C t2
      have e2 := (tw_iff l 82 (by decide) C).1 t2
      rw [v2] at e2 ⊢
      rw [if_pos]
      refine ⟨?_, ?_, e1, e2⟩
      · rcases Nat.lt_or_ge E A with h | h
        · exact h
        · obtain rfl : E = A := by omega
          omega
      · rcases Nat.lt_or_ge (A + 1) C with h | h
        · exact h
        · obtain rfl : A + 1 = C := by omega
          omega
    · rw [if_neg t2, if_neg]
      rintro ⟨_, _, _, h⟩
      exact t2 ((tw_iff l 82 (by decide) C).2 h)
  · rw [if_neg t1, if_neg]
    rintro ⟨_, _, h, _⟩
    exact t1 ((tw_iff l 48 (by decide) A).2 h)
end Go.Proofs.YtalmcdbdibpgkaaGreatDoor
/-
  A numeral without leading zeros is what its number is written as.
-/
namespace Go.Proofs.YtalmcdbdibpgkaaGreatDoor
open Go.RowKit Go.Deep
set_option linter.unusedVariables false

theorem dgB_of (c : UInt8) (h : isDg c = true) : D2.dgB (c.toNat - 48) = c := by
  have h := of_decide_eq_true h
  unfold D2.dgB
  rw [show 48 + (c.toNat - 48) = c.toNat by omega]
  simp
theorem valD_pos (d : List UInt8) (c : UInt8) (hc : isDg c = true) (h : c.toNat ≠ 48) : 1 ≤ valD (c :: d) := by
  have hc := of_decide_eq_true hc
  have key : ∀ (l : List UInt8) (a : Nat), a ≤ l.foldl (fun a c => a * 10 + (c.toNat - 48)) a := fun l => by
    induction l with
    | nil => exact fun a => Nat.le_refl _
    | cons x l ih => exact fun a => Nat.le_trans (show a ≤ a * 10 + (x.toNat - 48) by omega) (ih _)
  unfold valD
  rw [List.foldl_cons]
  exact Nat.le_trans (by omega) (key d _)
theorem numeral (d : List UInt8) (ha : d.all isDg = true) (h0 : d ≠ []) (hz : (d.getD 0 0).toNat = 48 → d.length = 1) : Lib.decDigits (valD d) = d := by
  have key : ∀ (r : List UInt8), r.reverse.all isDg = true → r ≠ [] → ((r.reverse.getD 0 0).toNat = 48 → r.length = 1) → Lib.decDigits (valD r.reverse) = r.reverse := by
    intro r
    induction r with
    | nil => exact fun _ h => absurd rfl h
    | cons c r ih =>
      intro ha _ hz
      rw [List.reverse_cons] at ha hz ⊢
      rw [List.all_append, Bool.and_eq_true] at ha
      have hc : isDg c = true := by simpa using ha.2
      have hcb := of_decide_eq_true hc
      rw [valD_snoc]
      cases r with
      | nil =>
        rw [show valD ([] : List UInt8).reverse * 10 + (c.toNat - 48) = c.toNat - 48 by simp [valD], D2.dec_one' _ (by omega), dgB_of c hc]
        rfl
      | cons x r =>
        have hg : (((x :: r).reverse ++ [c]).getD 0 0) = (x :: r).reverse.getD 0 0 := by
          have : 0 < (x :: r).reverse.length := by simp
          simp only [List.getD, List.getElem?_append_left this]
        have hn : ¬ ((x :: r).reverse.getD 0 0).toNat = 48 := fun e => by
          have := hz (by rw [hg]; exact e)
          simp at this
        have h1 : 1 ≤ valD (x :: r).reverse := by
          cases hl : (x :: r).reverse with
          | nil => simp at hl
          | cons y t =>
            rw [hl] at hn ha
            refine valD_pos t y ?_ hn
            have := ha.1
            rw [List.all_cons, Bool.and_eq_true] at this
            exact this.1
        rw [D2.dec_more' _ (by omega), show (valD (x :: r).reverse * 10 + (c.toNat - 48)) / 10 = valD (x :: r).reverse by omega, show (valD (x :: r).reverse * 10 + (c.toNat - 48)) % 10 = c.toNat - 48 by omega, dgB_of c hc, ih ha.1 (by simp) (fun e => absurd e hn)]
  have := key d.reverse
  rw [List.reverse_reverse, List.length_reverse] at this
  exact this ha (by simpa using h0) hz
theorem decFrom_all : ∀ (d : List UInt8) (acc : Nat), d.all isDg = true → Lib.decFrom acc d = some (d.foldl (fun a c => a * 10 + (c.toNat - 48)) acc)
  | [], acc, _ => rfl
  | c :: d, acc, h => by
    rw [List.all_cons, Bool.and_eq_true] at h
    have hc := of_decide_eq_true h.1
    unfold Lib.decFrom
    rw [show Lib.digitVal c = some (c.toNat - 48) from if_pos hc]
    exact decFrom_all d _ h.2
theorem decNat_all (d : List UInt8) (h : d.all isDg = true) (h0 : d ≠ []) : Lib.decNat d = some (valD d) := by
  unfold Lib.decNat
  rw [if_neg (by simpa using h0)]
  exact decFrom_all d 0 h
theorem intD_true (ng : Bool) (d : List UInt8) (x : Int) (h : intD ng d = (x, true)) : d ≠ [] ∧ d.length ≤ 14 ∧ d.all isDg = true ∧ ((d.getD 0 0).toNat = 48 → d.length = 1 ∧ ng = false) ∧ x = (if ng then -(valD d : Int) else (valD d : Int)) := by
  unfold intD at h
  split at h
  · injection h with _ h; cases h
  · rename_i h1
    split at h
    · rename_i h2
      injection h with h3 h4
      refine ⟨fun e => h1 (Or.inl (by rw [e]; rfl)), by omega, h2, fun e => ⟨by omega, ?_⟩, h3.symm⟩
      cases ng
      · rfl
      · exact absurd (Or.inr (Or.inr ⟨e, Or.inr rfl⟩)) h1
    · injection h with _ h; cases h
theorem int_ai (wl : List UInt8) (x : Int) (h : intW wl = (x, true)) : aiV wl = some x := by
  unfold intW at h
  unfold aiV
  split at h
  · rename_i h1
    obtain ⟨h2, h3, h4, h5, h6⟩ := intD_true _ _ _ h
    cases wl with
    | nil => simp at h1
    | cons b d =>
      have hb : b = 45 := UInt8.toNat_inj.1 (by simpa using h1.1)
      subst hb
      simp only [List.drop_succ_cons, List.drop_zero] at h2 h3 h4 h5 h6
      simp only [if_true] at h6
      have hz : ¬ (d.getD 0 0).toNat = 48 := fun e => by have := (h5 e).2; cases this
      have hv : 1 ≤ valD d := by
        cases d with
        | nil => exact absurd rfl h2
        | cons y t =>
          rw [List.all_cons, Bool.and_eq_true] at h4
          exact valD_pos t y h4.1 (by simpa using hz)
      rw [Lib.atoiAll_short _ (by simp; omega), show Lib.atoi (45 :: d) = (Lib.decNat d).map fun (m : Nat) => -(m : Int) from rfl, decNat_all d h4 h2]
      show (if Lib.itoa (-(valD d : Int)) = _ then _ else _) = _
      rw [Lib.itoa_neg _ hv, numeral d h4 h2 (fun e => absurd e hz), if_pos rfl, h6]
  · rename_i h1
    obtain ⟨h2, h3, h4, h5, h6⟩ := intD_true _ _ _ h
    simp only [Bool.false_eq_true, if_false] at h6
    cases wl with
    | nil => exact absurd rfl h2
    | cons b d =>
      have hb := h4
      rw [List.all_cons, Bool.and_eq_true] at hb
      have hb := of_decide_eq_true hb.1
      have b1 : (b == 45) = false := by rw [beq_eq_false_iff_ne]; rintro rfl; simp at hb
      have b2 : (b == 43) = false := by rw [beq_eq_false_iff_ne]; rintro rfl; simp at hb
      rw [Lib.atoiAll_short _ (by omega), show Lib.atoi (b :: d) = (Lib.decNat (b :: d)).map fun (m : Nat) => (m : Int) by unfold Lib.atoi; simp only [b1, b2, Bool.false_eq_true, if_false], decNat_all _ h4 h2]
      show (if Lib.itoa ((valD (b :: d) : Nat) : Int) = _ then _ else _) = _
      rw [Lib.itoa_nonneg, numeral _ h4 h2 (fun e => (h5 e).1), if_pos rfl, h6]
theorem dec_ne (u : Nat) : Lib.decDigits u ≠ [] := by
  by_cases h : u < 10
  · rw [D2.dec_one' u h]; simp
  · rw [D2.dec_more' u h]; simp
theorem dec_head (u : Nat) : ((Lib.decDigits u).getD 0 0).toNat = 48 → u = 0 := by
  induction u using Nat.strongRecOn with
  | _ u ih =>
    by_cases h : u < 10
    · rw [D2.dec_one' u h]
      intro e
      have e : (UInt8.ofNat (48 + u)).toNat = 48 := e
      rw [UInt8.toNat_ofNat'] at e
      omega
    · rw [D2.dec_more' u h]
      intro e
      have hg : ((Lib.decDigits (u / 10) ++ [D2.dgB (u % 10)]).getD 0 0) = (Lib.decDigits (u / 10)).getD 0 0 := by
        have : 0 < (Lib.decDigits (u / 10)).length := List.length_pos_iff.2 (dec_ne _)
        simp only [List.getD, List.getElem?_append_left this]
      rw [hg] at e
      have := ih (u / 10) (by omega) e
      omega
theorem dec_len14 : ∀ (k u : Nat), u < 10 ^ (k + 1) → (Lib.decDigits u).length ≤ k + 1
  | 0, u, h => by rw [D2.dec_one' u (by simpa using h)]; simp
  | k + 1, u, h => by
    by_cases h1 : u < 10
    · rw [D2.dec_one' u h1]; simp
    · rw [D2.dec_more' u h1, List.length_append]
      have := dec_len14 k (u / 10) (by rw [Nat.pow_succ] at h; omega)
      simp
      omega
theorem dec_val (u : Nat) : (Lib.decDigits u).all isDg = true ∧ valD (Lib.decDigits u) = u := by
  obtain ⟨h1, h2⟩ := D2.dec_spec u
  refine ⟨h1, ?_⟩
  have : ∀ (l : List UInt8) (a : Nat), l.foldl (fun a c => a * 10 + (c.toNat - 48)) a = l.foldl (fun a c => 10 * a + D2.dv c) a := fun l => by
    induction l with
    | nil => exact fun _ => rfl
    | cons c l ih => intro a; rw [List.foldl_cons, List.foldl_cons, ih]; rw [Nat.mul_comm]; rfl
  unfold valD
  rw [this]
  exact h2
theorem intD_dec (ng : Bool) (u : Nat) (hu : u ≤ 1099511627776) (h0 : ng = true → 1 ≤ u) : intD ng (Lib.decDigits u) = ((if ng then -(u : Int) else (u : Int)), true) := by
  obtain ⟨h1, h2⟩ := dec_val u
  have hl := dec_len14 13 u (by omega)
  unfold intD
  rw [if_neg, if_pos h1, h2]
  · congr 1
    cases ng <;> simp [inB] <;> omega
  · rintro (h | h | ⟨h, h3⟩)
    · exact dec_ne u (List.length_eq_zero_iff.1 h)
    · omega
    · have := dec_head u h
      subst this
      rcases h3 with h3 | h3
      · rw [D2.dec_one' 0 (by omega)] at h3; simp at h3
      · have := h0 h3; omega
theorem ai_int (wl : List UInt8) (x : Int) (h : aiV wl = some x) (hx : -1099511627776 ≤ x ∧ x ≤ 1099511627776) : intW wl = (x, true) := by
  have hw : Lib.itoa x = wl := by
    unfold aiV at h
    split at h
    · split at h
      · rename_i h1; injection h with h; rw [← h]; exact h1
      · cases h
    · cases h
  subst hw
  unfold intW
  rcases (show x < 0 ∨ 0 ≤ x by omega) with hn | hn
  · obtain ⟨u, rfl⟩ : ∃ u : Nat, x = -(u : Int) := ⟨x.natAbs, by omega⟩
    rw [Lib.itoa_neg u (by omega), if_pos ⟨rfl, by simp⟩]
    exact intD_dec true u (by omega) (fun _ => by omega)
  · obtain ⟨u, rfl⟩ : ∃ u : Nat, x = (u : Int) := ⟨x.natAbs, by omega⟩
    rw [Lib.itoa_nonneg, if_neg]
    · exact intD_dec false u (by omega) (fun h => by cases h)
    · rintro ⟨h1, _⟩
      have h2 := (dec_val u).1
      cases hd : Lib.decDigits u with
      | nil => exact dec_ne u hd
      | cons c r =>
        rw [hd] at h1 h2
        rw [List.all_cons, Bool.and_eq_true] at h2
        have h3 := of_decide_eq_true h2.1
        have h1 : c.toNat = 45 := h1
        omega
end Go.Proofs.YtalmcdbdibpgkaaGreatDoor
/-
  Words: the two readers read the same, where it is good.
-/
namespace Go.Proofs.YtalmcdbdibpgkaaGreatDoor
open Go.RowKit Go.Deep
set_option linter.unusedVariables false

def gA (X : Option (Pay × Nat)) : Option (Pay × BT Pay × Nat) := match X with
  | none => none
  | some (p, q) => if flatV p 0 = true then some (p, .nil, q) else none
theorem fV_gA (nest n : Int) (h0 : 0 ≤ n) (hn : n ≤ 65535) (X : Option (Pay × Nat)) (hc : ∀ p q, X = some (p, q) → cont p = false) : fV nest n (X.map fun q => (q.1, .nil, q.2)) = gA X := by
  rcases X with _ | ⟨p, q⟩
  · rfl
  · show (if 0 ≤ goodV p .nil nest n then _ else _) = (if flatV p 0 = true then _ else _)
    rw [goodV_leaf p nest n hn (hc p q rfl)]
    by_cases hf : flatV p 0 = true
    · rw [if_pos hf, if_pos hf, if_pos (by omega)]
    · rw [if_neg hf, if_neg hf, if_neg (by omega)]
theorem flat8 (x : Int) : flatV (zp 8 false x) 0 = decide (1 ≤ x ∧ x ≤ 4096) := by
  unfold flatV
  simp [ByteArray.size]
theorem flat2 (x : Int) : flatV (zp 2 false x) 0 = decide (-1099511627776 ≤ x ∧ x ≤ 1099511627776) := by
  unfold flatV
  simp [ByteArray.size]
theorem flat3 (x : Int) : flatV (zp 3 false x) 0 = (decide (-1099511627776 ≤ x ∧ x ≤ 1099511627776) && decide (x % 65536 ≠ 0)) := by
  unfold flatV
  simp [ByteArray.size]
theorem tmod_iff (x : Int) : x.tmod 65536 ≠ 0 ↔ x % 65536 ≠ 0 := by
  rw [Int.ne_iff_lt_or_gt, Int.ne_iff_lt_or_gt, ← Int.ne_iff_lt_or_gt, ← Int.ne_iff_lt_or_gt]
  constructor
  · intro h e
    exact h (Int.tmod_eq_zero_of_dvd (Int.dvd_of_emod_eq_zero e))
  · intro h e
    exact h (Int.emod_eq_zero_of_dvd (Int.dvd_of_tmod_eq_zero e))
theorem no_dot (x : Int) : (46 : UInt8) ∉ Lib.itoa x := by
  have hd : ∀ u, (46 : UInt8) ∉ Lib.decDigits u := fun u h => by
    have := List.all_eq_true.1 (dec_val u).1 _ h
    simp [isDg] at this
  rcases (show x < 0 ∨ 0 ≤ x by omega) with hn | hn
  · obtain ⟨u, rfl⟩ : ∃ u : Nat, x = -(u : Int) := ⟨x.natAbs, by omega⟩
    rw [Lib.itoa_neg u (by omega)]
    intro h
    rcases List.mem_cons.1 h with h | h
    · cases h
    · exact hd _ h
  · obtain ⟨u, rfl⟩ : ∃ u : Nat, x = (u : Int) := ⟨x.natAbs, by omega⟩
    rw [Lib.itoa_nonneg]
    exact hd _
theorem par_int (x : Int) (h : D2.parB (Lib.itoa x) = true) : ¬ (D2.parV (Lib.itoa x)).tmod 65536 ≠ 0 := by
  rw [tmod_iff]
  intro hm
  unfold D2.parV at hm
  rw [if_pos h] at hm
  unfold D2.parB at h
  rw [Bool.and_eq_true] at h
  have ht := eq_of_beq h.2
  rw [D2.textL_num, if_neg (by omega)] at ht
  have : (46 : UInt8) ∈ Lib.itoa x := by
    rw [← ht]
    simp [D2.numL, D2.ptF]
  exact no_dot x this
theorem at_eq (s : ByteArray) : AtEq s := by
  intro A nest n hA h0 hn
  rw [fV_gA nest n h0 hn _ (fun p q h => (wd_cont _ _ _ _ h).1), fV_gA nest n h0 hn _ (fun p q h => (at_leaf _ _ _ _ h).2.2)]
  unfold wdV atV
  have hr := ref_eq s.data.toList A
  generalize (s.data.toList.drop A).take (wordV s.data.toList A - A) = wl
  generalize wordV s.data.toList A = E at hr
  unfold wdP atP
  rw [hr]
  by_cases n0 : wl = [110, 117, 108, 108]
  · rw [if_pos n0, if_pos n0]
  rw [if_neg n0, if_neg n0]
  by_cases n1 : wl = [116, 114, 117, 101]
  · rw [if_pos n1, if_pos n1]
  rw [if_neg n1, if_neg n1]
  by_cases n2 : wl = [102, 97, 108, 115, 101]
  · rw [if_pos n2, if_pos n2]
  rw [if_neg n2, if_neg n2]
  by_cases hi : (intW wl).2 = true
  · have hx : intW wl = ((intW wl).1, true) := by rw [← hi]
    rw [if_pos hi, int_ai wl _ hx]
    dsimp only
    cases refQ s.data.toList E with
    | none => rfl
    | some e2 =>
      dsimp only
      by_cases hb : 1 ≤ (intW wl).1 ∧ (intW wl).1 ≤ 4096
      · rw [if_pos hb]
      · rw [if_neg hb]
        show (if flatV (zp 8 false _) 0 = true then _ else _) = _
        rw [flat8, if_neg (by simpa using hb)]
        rfl
  · rw [if_neg hi]
    cases hai : aiV wl with
    | some x =>
      have hout : ¬ (-1099511627776 ≤ x ∧ x ≤ 1099511627776) := fun h => by
        have := ai_int wl x hai h
        rw [this] at hi
        exact hi rfl
      have hw : Lib.itoa x = wl := by
        unfold aiV at hai
        split at hai
        · split at hai
          · rename_i h1; injection hai with h; rw [← h]; exact h1
          · cases hai
        · cases hai
      dsimp only
      have hright : ¬ (D2.parB wl = true ∧ (D2.parV wl).tmod 65536 ≠ 0) := fun h => by
        rw [← hw] at h
        exact par_int x h.1 h.2
      rw [if_neg hright]
      cases refQ s.data.toList E with
      | none =>
        show (if flatV (zp 2 false x) 0 = true then _ else _) = _
        rw [flat2, if_neg (by simpa using hout)]
        rfl
      | some e2 =>
        show (if flatV (zp 8 false x) 0 = true then _ else _) = _
        rw [flat8, if_neg (by simp; omega)]
        rfl
    | none =>
      dsimp only
      by_cases hp : D2.parB wl = true
      · rw [if_pos hp]
        by_cases hm : (D2.parV wl).tmod 65536 ≠ 0
        · rw [if_pos ⟨hp, hm⟩]
        · rw [if_neg (fun h => hm h.2)]
          show (if flatV (zp 3 false _) 0 = true then _ else _) = _
          rw [tmod_iff] at hm
          rw [flat3, if_neg (by simpa using fun _ _ => (by simpa using hm : D2.parV wl % 65536 = 0))]
          rfl
      · rw [if_neg hp, if_neg (fun h => hp h.1)]
end Go.Proofs.YtalmcdbdibpgkaaGreatDoor
/-
  Both Parses answer the same, every text of at most 65536 bytes, every place.
-/
namespace Go.Proofs.YtalmcdbdibpgkaaGreatDoor
open Go.RowKit Go.Deep
set_option linter.unusedVariables false

def Pq (w : World) (R : Option (Pay × BT Pay × Nat)) (e : Ending) (w' : World) : Prop := match R with
  | some (p, T, q) => (∃ ka kc ia ic, e = .returned (.tuple #[ov p ka kc ia (flen T) ic, .int .i64 q, .int .i64 0]) ∧ OIn (fresh w.heap.size w') p T ka kc ia ic) ∧ Below w.heap.size w w'
  | none => e = .returned (.tuple #[zov, .int .i64 0, .int .i64 50]) ∧ Below w.heap.size w w'
theorem good_pos (p : Pay) (T : BT Pay) (h : 0 ≤ goodV p T 0 0) : 0 < goodV p T 0 0 := by
  unfold goodV gV at h ⊢
  split at h
  · omega
  · rename_i h1
    rw [if_neg h1]
    split at h
    · rename_i h2
      rw [if_pos h2]
      split at h
      · omega
      · rename_i h3
        rw [if_neg h3]
        have := goodF_ge T (0 + 1) (0 + 1) (by omega) h
        omega
    · rename_i h2
      rw [if_neg h2]
      have := goodF_ge T 0 (0 + 1) (by omega) h
      omega
theorem both_parse (s : ByteArray) (a : Nat) (hs : s.size ≤ 65536) (ha : a ≤ s.size) :
    ∃ R, (∀ w, Glo5 w → Calls Tryz.prog 14 #[.string s, .int .i64 a] w (Pq w R)) ∧ (∀ w, Calls Tryz.prog 15 #[.string s, .int .i64 a] w (Pq w R)) := by
  have he := (eq_all s (at_eq s) (fuelOf s)).1 a 0 0 ha (by omega) (by omega) (by omega)
  have h1 := fun w hg => parse_rc s a w hg (by omega) ha
  refine ⟨fV 0 0 ((recQ s.data.toList (fuelOf s)).ob (blanksV s.data.toList a) 0), fun w hg => ?_, fun w => ?_⟩
  · have h1 := h1 w hg
    have he : fV 0 0 ((rec5 s.data.toList (fuelOf s)).ob a 0) = fV 0 0 ((recQ s.data.toList (fuelOf s)).ob (blanksV s.data.toList a) 0) := by simpa using he
    rw [← he]
    generalize (rec5 s.data.toList (fuelOf s)).ob a 0 = X at h1
    rcases X with _ | ⟨p, T, q⟩
    · exact h1
    · unfold PaR at h1
      unfold fV
      dsimp only at h1 ⊢
      by_cases hg : 0 ≤ goodV p T 0 0
      · simp only [if_pos hg] at h1 ⊢
        exact h1
      · simp only [if_neg hg] at h1 ⊢
        exact h1
  · cases hR : (recQ s.data.toList (fuelOf s)).ob (blanksV s.data.toList a) 0 with
    | none => exact rpa_none s a w hs ha hR
    | some r =>
      obtain ⟨p, T, q⟩ := r
      unfold fV
      dsimp only
      by_cases hg : 0 ≤ goodV p T 0 0
      · rw [if_pos hg]
        exact rpa_fine s a w hs ha p T q hR (decide_eq_true (good_pos p T hg))
      · rw [if_neg hg]
        exact rpa_bad s a w hs ha p T q hR (decide_eq_false (by unfold cntV; omega))
end Go.Proofs.YtalmcdbdibpgkaaGreatDoor
