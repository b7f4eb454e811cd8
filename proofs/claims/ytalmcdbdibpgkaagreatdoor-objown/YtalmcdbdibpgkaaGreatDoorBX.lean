/-
  Joined: O5Qrq, O5Qbd, O5Qbe, O5Qpa.
-/
import Derived.Test.YtalmcdbdibpgkaaGreatDoorBW
import Derived.Test.YtalmcdbdibpgkaaGreatDoorBG
/-
  What the reference's read answers, whatever stands there, at every fuel that is enough.
-/
namespace Go.Proofs.YtalmcdbdibpgkaaGreatDoor
open Go.RowKit Go.Deep
set_option linter.unusedVariables false

theorem hpF_one (s : ByteArray) (a : Nat) (h : a < s.size) (c : UInt8) (k : Nat) (hk : c.toNat = k) (hne : ¬ s[a].toNat = k) : ¬ Lib.hasPrefix (s.data.toList.drop a) [c] = true := fun e => by
  obtain ⟨_, e⟩ := (hp_byte s a c).1 e
  exact hne (e.trans hk)
theorem hpT_one (s : ByteArray) (a : Nat) (h : a < s.size) (c : UInt8) (k : Nat) (hk : c.toNat = k) (he : s[a].toNat = k) : Lib.hasPrefix (s.data.toList.drop a) [c] = true := (hp_byte s a c).2 ⟨h, he.trans hk.symm⟩
theorem ReR.leaf {w w' : World} {p : Pay} {q : Nat} {e : Ending} (h1 : p.ok) (h2 : p.keys = []) (h : e = .returned (.tuple #[ov p none 0 none 0 0, .int .i64 q, .bool true]) ∧ Below w.heap.size w w') : ReR w (some (p, .nil, q)) e w' := ⟨⟨none, 0, none, 0, h.1, oin_leaf _ _ h1 h2⟩, h.2⟩
theorem ReR.junk {w w' : World} {p : Pay} {q : Nat} {e : Ending} (h : e = .returned (.tuple #[ov p none 0 none 0 0, .int .i64 q, .bool false]) ∧ Below w.heap.size w w') : ReR w none e w' := ⟨⟨p, none, 0, none, 0, 0, q, h.1⟩, h.2⟩
theorem tp_okq (k : Int) (t : List UInt8) (hk : 0 ≤ k ∧ k ≤ 100) (ht : t.length ≤ 16777216) : (tp k t).ok := ⟨by simp only; omega, by simp only; omega, by
  have : (⟨t.toArray⟩ : ByteArray).size = t.length := by simp [ByteArray.size]
  show (⟨t.toArray⟩ : ByteArray).size ≤ _
  rw [this]; omega, by simp⟩
/- how long what is read of a text is -/
def LenQ (s : ByteArray) : Prop := (∀ a t q, a ≤ s.size → quoV (s.data.toList.drop a) a = some (t, q) → t.length ≤ 16777216) ∧ (∀ a t q, a ≤ s.size → digV (s.data.toList.drop a) a = some (t, q) → t.length ≤ 16777216) ∧ (∀ a t q, a ≤ s.size → nmV (s.data.toList.drop a) a = some (t, q) → t.length ≤ 16777216)
theorem read_step (s : ByteArray) (hs : s.size ≤ 65536) (bd : BdQ s) (ln : LenQ s) (f : Nat) (ih : ∀ g, g < f → ReC s g) : ReC s f := by
  intro a nest w ha hn hfu
  obtain ⟨f, rfl⟩ : ∃ f', f = f' + 1 := ⟨f - 1, by omega⟩
  show Calls Tryz.prog 25 _ w (ReR w (obQ s.data.toList (recQ s.data.toList f) a nest))
  have hl : s.data.toList.length = s.size := (Lib.size_eq s).symm
  unfold obQ
  rw [hl]
  by_cases h1 : a < s.size
  case neg =>
    rw [if_pos (Or.inr (by omega))]
    exact re_none1 s a nest w (by omega) ha (by omega) (by omega)
  by_cases h2 : nest ≤ 32
  case neg =>
    rw [if_pos (Or.inl (by omega))]
    exact re_none2 s a nest w (by omega) ha (by omega) h1 (by omega)
  rw [if_neg (by omega)]
  have T2 : Lib.hasPrefix (s.data.toList.drop a) [60, 60] = true → s[a].toNat = 60 := fun e => ((hp_two s a 60 60).1 e).2.1
  have ca : ((a + 1 : Nat) : Int) = (a : Int) + 1 := by omega
  have ca2 : ((a + 2 : Nat) : Int) = (a : Int) + 2 := by omega
  have cn : ((nest + 1 : Nat) : Int) = (nest : Int) + 1 := by omega
  by_cases c47 : s[a].toNat = 47
  · rw [if_neg (fun e => by have := T2 e; omega), if_neg (hpF_one s a h1 91 91 rfl (by omega)), if_neg (hpF_one s a h1 60 60 rfl (by omega)), if_neg (hpF_one s a h1 40 40 rfl (by omega)), if_pos (hpT_one s a h1 47 47 rfl c47)]
    cases hR : nmV (s.data.toList.drop (a + 1)) (a + 1) with
    | none =>
      have C := fun x => named_core s (a + 1) x (by omega) (by omega) _ hR
      rw [ca] at C
      exact (re_name s a nest w (by omega) ha (by omega) h1 h2 c47 ⟨#[]⟩ 0 false C).mono fun e w' h => ReR.junk h
    | some r =>
      obtain ⟨t, q⟩ := r
      have C := fun x => named_core s (a + 1) x (by omega) (by omega) _ hR
      rw [ca] at C
      have hlen := ln.2.2 (a + 1) t q (by omega) hR
      cases hb : nameB t
      · unfold nmT at C
        simp only [hb] at C
        dsimp only
        rw [if_neg (by rw [hb]; simp)]
        exact (re_name s a nest w (by omega) ha (by omega) h1 h2 c47 _ _ _ C).mono fun e w' h => ReR.junk h
      · unfold nmT at C
        simp only [hb] at C
        dsimp only
        rw [if_pos hb]
        exact (re_name s a nest w (by omega) ha (by omega) h1 h2 c47 _ _ _ C).mono fun e w' h => ReR.leaf (tp_okq 4 t (by omega) hlen) rfl h
  by_cases c40 : s[a].toNat = 40
  · rw [if_neg (fun e => by have := T2 e; omega), if_neg (hpF_one s a h1 91 91 rfl (by omega)), if_neg (hpF_one s a h1 60 60 rfl (by omega)), if_pos (hpT_one s a h1 40 40 rfl c40)]
    cases hR : quoV (s.data.toList.drop (a + 1)) (a + 1) with
    | none =>
      have C := fun x => quoted_core s (a + 1) x (by omega) (by omega) _ hR
      rw [ca] at C
      exact (re_quo s a nest w (by omega) ha (by omega) h1 h2 c47 c40 ⟨#[]⟩ 0 false C).mono fun e w' h => ReR.junk h
    | some r =>
      obtain ⟨t, q⟩ := r
      have C := fun x => quoted_core s (a + 1) x (by omega) (by omega) _ hR
      rw [ca] at C
      exact (re_quo s a nest w (by omega) ha (by omega) h1 h2 c47 c40 ⟨t.toArray⟩ q true C).mono fun e w' h => ReR.leaf (tp_okq 5 t (by omega) (ln.1 (a + 1) t q (by omega) hR)) rfl h
  by_cases c91 : s[a].toNat = 91
  · rw [if_neg (fun e => by have := T2 e; omega), if_pos (hpT_one s a h1 91 91 rfl c91)]
    refine re_list s a nest w (by omega) ha (by omega) h1 h2 c47 c40 c91 _ fun x => ?_
    have := list_q s (f + 1) ih bd f (by omega) (a + 1) (nest + 1) x hs (by omega) (by omega) (by omega)
    rwa [ca, cn] at this
  by_cases c60 : s[a].toNat = 60
  · have dig : ∀ R, digV (s.data.toList.drop (a + 1)) (a + 1) = R → (∀ (t : ByteArray) (q : Nat) (ok : Bool), (∀ x, Calls Tryz.prog 54 #[.string s, .int .i64 ((a : Int) + 1)] x fun e x' => e = .returned (.tuple #[.string t, .int .i64 q, .bool ok]) ∧ Below x.heap.size x x') → Calls Tryz.prog 25 #[.string s, .int .i64 a, .int .i64 nest] w fun e w' => e = .returned (.tuple #[ov ⟨5, false, 0, t, []⟩ none 0 none 0 0, .int .i64 q, .bool ok]) ∧ Below w.heap.size w w') → Calls Tryz.prog 25 #[.string s, .int .i64 a, .int .i64 nest] w (ReR w (R.map fun q => (tp 5 q.1, .nil, q.2))) := fun R hR H => by
      have C := fun x => digited_core s (a + 1) x (by omega) (by omega) _ hR
      rw [ca] at C
      rcases R with _ | ⟨t, q⟩
      · exact (H ⟨#[]⟩ 0 false C).mono fun e w' h => ReR.junk h
      · exact (H ⟨t.toArray⟩ q true C).mono fun e w' h => ReR.leaf (tp_okq 5 t (by omega) (ln.2.1 (a + 1) t q (by omega) hR)) rfl h
    by_cases h3 : a + 1 < s.size
    · by_cases c3 : s[a + 1].toNat = 60
      · rw [if_pos ((hp_two s a 60 60).2 ⟨h3, c60, c3⟩)]
        refine re_dict s a nest w (by omega) ha (by omega) h1 h2 c47 c40 c91 c60 h3 c3 _ fun x => ?_
        have := dict_q s (f + 1) ih bd f (by omega) (a + 2) (nest + 1) x hs (by omega) (by omega) (by omega)
        rwa [ca2, cn] at this
      · rw [if_neg (fun e => c3 ((hp_two s a 60 60).1 e).2.2), if_neg (hpF_one s a h1 91 91 rfl (by omega)), if_pos (hpT_one s a h1 60 60 rfl c60)]
        exact dig _ rfl fun t q ok C => re_dig2 s a nest w (by omega) ha (by omega) h1 h2 c47 c40 c91 c60 h3 c3 t q ok C
    · rw [if_neg (fun e => h3 ((hp_two s a 60 60).1 e).1), if_neg (hpF_one s a h1 91 91 rfl (by omega)), if_pos (hpT_one s a h1 60 60 rfl c60)]
      exact dig _ rfl fun t q ok C => re_dig1 s a nest w (by omega) ha (by omega) h1 h2 c47 c40 c91 c60 h3 t q ok C
  rw [if_neg (fun e => by have := T2 e; omega), if_neg (hpF_one s a h1 91 91 rfl (by omega)), if_neg (hpF_one s a h1 60 60 rfl (by omega)), if_neg (hpF_one s a h1 40 40 rfl (by omega)), if_neg (hpF_one s a h1 47 47 rfl (by omega))]
  exact re_atom s a nest w (by omega) ha (by omega) h1 h2 c47 c40 c91 c60 _ fun x => (atom_q s a x (by omega) ha).mono fun e w' h => ReR.of_at h
theorem read_all (s : ByteArray) (hs : s.size ≤ 65536) (bd : BdQ s) (ln : LenQ s) (f : Nat) : ∀ g, g < f → ReC s g := by
  induction f with
  | zero => exact fun g h => absurd h (Nat.not_lt_zero _)
  | succ f ihf => exact fun g h => read_step s hs bd ln g (fun k hk => ihf k (by omega))
end Go.Proofs.YtalmcdbdibpgkaaGreatDoor
/-
  What is read of a text ends within it.
-/
namespace Go.Proofs.YtalmcdbdibpgkaaGreatDoor
open Go.RowKit Go.Deep
set_option linter.unusedVariables false

theorem escV_len (l : List UInt8) (x n : Nat) (h : escV l = some (x, n)) : n ≤ l.length := by
  unfold escV at h
  cases l with
  | nil => cases h
  | cons c l' =>
    simp only at h
    cases he : escL c.toNat with
    | some y =>
      rw [he] at h
      simp only [Option.some.injEq, Prod.mk.injEq] at h
      simp
      omega
    | none =>
      rw [he] at h
      simp only at h
      cases ho : octR (c :: l') 3 with
      | none => rw [ho] at h; cases h
      | some m =>
        rw [ho] at h
        simp only at h
        split at h
        · simp only [Option.some.injEq, Prod.mk.injEq] at h
          have : 3 ≤ (c :: l').length := by
            unfold octR at ho
            cases h2 : octR (c :: l') 2 with
            | none => rw [h2] at ho; cases ho
            | some y =>
              rw [h2] at ho
              simp only at ho
              cases h3 : (c :: l')[2]? with
              | none => rw [h3] at ho; cases ho
              | some z =>
                have := (List.getElem?_eq_some_iff.1 h3).1
                omega
          omega
        · cases h
theorem qR_up : ∀ (f : Nat) (l : List UInt8) (o p : Nat) (acc bs : List UInt8) (q : Nat), qR f l o p acc = some (bs, q) → q ≤ p + l.length
  | 0, _, _, _, _, _, _, h => by simp [qR] at h
  | _ + 1, [], _, _, _, _, _, h => by simp [qR] at h
  | f + 1, c :: l, o, p, acc, bs, q, h => by
    unfold qR at h
    split at h
    · have := qR_up f l _ _ _ _ _ h; simp; omega
    split at h
    · split at h
      · simp only [Option.some.injEq, Prod.mk.injEq] at h; simp; omega
      · have := qR_up f l _ _ _ _ _ h; simp; omega
    split at h
    · cases he : escV l with
      | none => rw [he] at h; cases h
      | some r =>
        obtain ⟨x, n⟩ := r
        rw [he] at h
        have h1 := escV_len l x n he
        have := qR_up f _ _ _ _ _ _ h
        rw [List.length_drop] at this
        simp; omega
    · have := qR_up f l _ _ _ _ _ h; simp; omega
theorem dR_up : ∀ (f : Nat) (l : List UInt8) (p : Nat) (acc bs : List UInt8) (q : Nat), dR f l p acc = some (bs, q) → q ≤ p + l.length ∧ bs.length ≤ acc.length + l.length
  | 0, _, _, _, _, _, h => by simp [dR] at h
  | _ + 1, [], _, _, _, _, h => by simp [dR] at h
  | f + 1, c :: l, p, acc, bs, q, h => by
    rw [dR_cons] at h
    split at h
    · simp only [Option.some.injEq, Prod.mk.injEq] at h; rw [← h.1]; simp; omega
    · cases l with
      | nil => cases h
      | cons d l' =>
        simp only at h
        split at h
        · have := dR_up f l' (p + 2) _ bs q h; simp at this ⊢; omega
        · cases h
theorem len_q (s : ByteArray) (hs : s.size ≤ 65536) : LenQ s := by
  have hd : ∀ a, (s.data.toList.drop a).length = s.size - a := fun a => by rw [List.length_drop, ← Lib.size_eq]
  refine ⟨fun a t q ha h => ?_, fun a t q ha h => ?_, fun a t q ha h => ?_⟩
  · have h1 := qR_le _ _ _ _ _ _ _ (Nat.le_refl _) h
    have h2 := qR_up _ _ _ _ _ _ _ h
    rw [hd] at h2
    simp at h1
    omega
  · have h1 := (dR_up _ _ _ _ _ _ h).2
    rw [hd] at h1
    simp at h1
    omega
  · have h1 := nR_le _ _ _ _ _ _ (Nat.le_refl _) h
    rw [hd] at h1
    simp at h1
    omega
end Go.Proofs.YtalmcdbdibpgkaaGreatDoor
/-
  Places that the reference's reader reads at end behind their beginning and within the text.
-/
namespace Go.Proofs.YtalmcdbdibpgkaaGreatDoor
open Go.RowKit Go.Deep
set_option linter.unusedVariables false

theorem intW_nil : (intW []).2 = false := by decide
theorem at_bd (s : ByteArray) (a : Nat) (ha : a ≤ s.size) (p : Pay) (q : Nat) (h : atV s.data.toList a = some (p, q)) : a < q ∧ q ≤ s.size := by
  unfold atV at h
  have hw := word_le s a ha
  obtain ⟨E, hE⟩ : ∃ E, wordV s.data.toList a = E := ⟨_, rfl⟩
  rw [hE] at h hw
  have hne : a < E := by
    rcases Nat.lt_or_ge a E with hh | hh
    · exact hh
    · exfalso
      rw [show E - a = 0 by omega, List.take_zero] at h
      unfold atP at h
      rw [if_neg (by simp), if_neg (by simp), if_neg (by simp), if_neg (by rw [intW_nil]; simp), if_neg (by rw [parB_nil]; simp)] at h
      cases h
  generalize (s.data.toList.drop a).take (E - a) = wl at h
  unfold atP at h
  split at h
  · simp only [Option.some.injEq, Prod.mk.injEq] at h; omega
  split at h
  · simp only [Option.some.injEq, Prod.mk.injEq] at h; omega
  split at h
  · simp only [Option.some.injEq, Prod.mk.injEq] at h; omega
  split at h
  · cases hr : refQ s.data.toList E with
    | none =>
      rw [hr] at h
      simp only [Option.some.injEq, Prod.mk.injEq] at h; omega
    | some d =>
      rw [hr] at h
      simp only at h
      unfold refQ at hr
      have h1 := blanks_ge s.data.toList E
      have h2 := blanks_le s E hw.2
      have h3 := word_le s _ h2
      have h4 := blanks_ge s.data.toList (wordV s.data.toList (blanksV s.data.toList E))
      have h5 := blanks_le s _ h3.2
      have h6 := word_le s _ h5
      split at hr
      · simp only [Option.some.injEq] at hr
        split at h
        · simp only [Option.some.injEq, Prod.mk.injEq] at h; omega
        · cases h
      · cases hr
  · split at h
    · simp only [Option.some.injEq, Prod.mk.injEq] at h; omega
    · cases h
theorem bd_all (s : ByteArray) : ∀ f, (∀ a nest p T q, (recQ s.data.toList f).ob a nest = some (p, T, q) → a < q ∧ q ≤ s.size) ∧ (∀ a nest T q, a ≤ s.size → (recQ s.data.toList f).li a nest = some (T, q) → a < q ∧ q ≤ s.size) ∧ (∀ a nest ks T q, a ≤ s.size → (recQ s.data.toList f).di a nest = some (ks, T, q) → a < q ∧ q ≤ s.size)
  | 0 => ⟨fun _ _ _ _ _ h => (by cases h), fun _ _ _ _ _ h => (by cases h), fun _ _ _ _ _ _ h => (by cases h)⟩
  | f + 1 => by
    obtain ⟨i1, i2, i3⟩ := bd_all s f
    have hl : s.data.toList.length = s.size := (Lib.size_eq s).symm
    have hd : ∀ a, (s.data.toList.drop a).length = s.size - a := fun a => by rw [List.length_drop, hl]
    have hp1 : ∀ {A : Nat} {c : UInt8}, Lib.hasPrefix (s.data.toList.drop A) [c] = true → A + 1 ≤ s.size := fun h => by
      obtain ⟨h, _⟩ := (hp_byte s _ _).1 h
      omega
    have hp2 : ∀ {A : Nat} {c d : UInt8}, Lib.hasPrefix (s.data.toList.drop A) [c, d] = true → A + 2 ≤ s.size := fun h => by
      obtain ⟨h, _⟩ := (hp_two s _ _ _).1 h
      omega
    have nmb : ∀ A t q, A ≤ s.size → nmV (s.data.toList.drop A) A = some (t, q) → A ≤ q ∧ q ≤ s.size := fun A t q hA h => by
      have h1 := nR_le _ _ _ _ _ _ (Nat.le_refl _) h
      rw [hd] at h1
      omega
    refine ⟨fun a nest p T q h => ?_, fun a nest T q ha h => ?_, fun a nest ks T q ha h => ?_⟩
    · have h : obQ s.data.toList (recQ s.data.toList f) a nest = some (p, T, q) := h
      unfold obQ at h
      rw [hl] at h
      split at h
      · cases h
      rename_i h0
      have ha : a < s.size := by omega
      split at h
      · rename_i hp
        have := hp2 hp
        cases hx : (recQ s.data.toList f).di (a + 2) (nest + 1) with
        | none => rw [hx] at h; cases h
        | some r =>
          obtain ⟨ks1, T1, q1⟩ := r
          rw [hx] at h
          have h4 := i3 _ _ _ _ _ (by omega) hx
          have h5 : some (kp ks1, T1, q1) = some (p, T, q) := h
          have h6 : q1 = q := by injection h5 with h5; injection h5 with _ h5; injection h5
          omega
      split at h
      · cases hx : (recQ s.data.toList f).li (a + 1) (nest + 1) with
        | none => rw [hx] at h; cases h
        | some r =>
          rw [hx] at h
          simp only [Option.map_some, Option.some.injEq, Prod.mk.injEq] at h
          have := i2 _ _ _ _ (by omega) hx
          omega
      split at h
      · cases hx : digV (s.data.toList.drop (a + 1)) (a + 1) with
        | none => rw [hx] at h; cases h
        | some r =>
          rw [hx] at h
          simp only [Option.map_some, Option.some.injEq, Prod.mk.injEq] at h
          have h1 := dR_lt _ _ _ _ _ _ hx
          have h2 := (dR_up _ _ _ _ _ _ hx).1
          rw [hd] at h2
          omega
      split at h
      · cases hx : quoV (s.data.toList.drop (a + 1)) (a + 1) with
        | none => rw [hx] at h; cases h
        | some r =>
          rw [hx] at h
          simp only [Option.map_some, Option.some.injEq, Prod.mk.injEq] at h
          have h1 := qR_le _ _ _ _ _ _ _ (Nat.le_refl _) hx
          have h2 := qR_up _ _ _ _ _ _ _ hx
          rw [hd] at h2
          omega
      split at h
      · cases hx : nmV (s.data.toList.drop (a + 1)) (a + 1) with
        | none => rw [hx] at h; cases h
        | some r =>
          rw [hx] at h
          simp only at h
          have h1 := nmb _ _ _ (by omega) hx
          split at h
          · simp only [Option.some.injEq, Prod.mk.injEq] at h; omega
          · cases h
      · cases hx : atV s.data.toList a with
        | none => rw [hx] at h; cases h
        | some r =>
          rw [hx] at h
          simp only [Option.map_some, Option.some.injEq, Prod.mk.injEq] at h
          have := at_bd s a (by omega) _ _ hx
          omega
    · have h : liS s.data.toList (recQ s.data.toList f) a nest = some (T, q) := h
      unfold liS at h
      have hb := blanks_ge s.data.toList a
      have hb2 := blanks_le s a ha
      split at h
      · rename_i hp
        have := hp1 hp
        simp only [Option.some.injEq, Prod.mk.injEq] at h; omega
      · cases hx : (recQ s.data.toList f).ob (blanksV s.data.toList a) nest with
        | none => rw [hx] at h; cases h
        | some r =>
          obtain ⟨p1, T1, q1⟩ := r
          rw [hx] at h
          simp only at h
          have h1 := i1 _ _ _ _ _ hx
          cases hy : (recQ s.data.toList f).li q1 nest with
          | none => rw [hy] at h; cases h
          | some r =>
            rw [hy] at h
            simp only [Option.some.injEq, Prod.mk.injEq] at h
            have := i2 _ _ _ _ h1.2 hy
            omega
    · have h : diQ s.data.toList (recQ s.data.toList f) a nest = some (ks, T, q) := h
      unfold diQ at h
      have hb := blanks_ge s.data.toList a
      have hb2 := blanks_le s a ha
      split at h
      · rename_i hp
        have := hp2 hp
        simp only [Option.some.injEq, Prod.mk.injEq] at h; omega
      split at h
      · rename_i hp
        have hpp := hp1 hp
        cases hn : nmV (s.data.toList.drop (blanksV s.data.toList a + 1)) (blanksV s.data.toList a + 1) with
        | none => rw [hn] at h; cases h
        | some r =>
          obtain ⟨t, j⟩ := r
          rw [hn] at h
          simp only at h
          have hj := nmb _ _ _ hpp hn
          split at h
          · have hjb := blanks_ge s.data.toList j
            cases hx : (recQ s.data.toList f).ob (blanksV s.data.toList j) nest with
            | none => rw [hx] at h; cases h
            | some r =>
              obtain ⟨p1, T1, q1⟩ := r
              rw [hx] at h
              simp only at h
              have h1 := i1 _ _ _ _ _ hx
              cases hy : (recQ s.data.toList f).di q1 nest with
              | none => rw [hy] at h; cases h
              | some r =>
                rw [hy] at h
                simp only [Option.some.injEq, Prod.mk.injEq] at h
                have := i3 _ _ _ _ _ h1.2 hy
                omega
          · cases h
      · cases h
theorem bd_q (s : ByteArray) : BdQ s := fun f a nest p T q h => (bd_all s f).1 a nest p T q h
theorem read_q (s : ByteArray) (hs : s.size ≤ 65536) (f : Nat) : ReC s f := read_all s hs (bd_q s) (len_q s hs) (f + 1) f (by omega)
end Go.Proofs.YtalmcdbdibpgkaaGreatDoor
/-
  What the reference's Parse answers.
-/
namespace Go.Proofs.YtalmcdbdibpgkaaGreatDoor
open Go.RowKit Go.Deep
set_option linter.unusedVariables false

theorem pars_fin {Q : Ending → World → Prop} {wf : World} {B : Nat} {p : Pay} {ka : Option Addr} {kc : Nat} {ia : Option Addr} {n ic : Nat} {q : Nat} {er : Int} (hk : Blk wf B (obox p ka kc ia n ic) 25) (hbel : Q (.returned (.tuple #[ov p ka kc ia n ic, .int .i64 q, .int .i64 er])) wf) (a : Act) (h4 : a.tmps[4]?.getD undef = .pointer (some ⟨B, 0, none⟩)) (h5 : a.tmps[5]?.getD undef = .int .i64 q) (h6 : a.tmps[6]?.getD undef = .int .i64 er) (hd : a.defers = []) :
    bodyPost Tryz.prog Tryz.f15 Q Exit.ret a wf := by
  obtain ⟨⟨f0, f1, f2, f3, f4, f5⟩, _⟩ := hk.six
  refine bodyPost_ret (v := .tuple #[ov p ka kc ia n ic, .int .i64 q, .int .i64 er]) ?_ hd hbel
  simp [results, Tryz.results15, go_sem, f0, f1, f2, f3, f4, f5, h4, h5, h6]
set_option maxRecDepth 8000 in
set_option maxHeartbeats 1000000 in
theorem rpa_none (s : ByteArray) (a : Nat) (w : World) (hs : s.size ≤ 65536) (ha : a ≤ s.size) (HR : (recQ s.data.toList (3 * s.size + 2)).ob (blanksV s.data.toList a) 0 = none) :
    Calls Tryz.prog 15 #[.string s, .int .i64 a] w fun e w' => e = .returned (.tuple #[zov, .int .i64 0, .int .i64 50]) ∧ Below w.heap.size w w' := by
  have HK : Hid (∀ cs, Blk (w.alloc (.cells cs 25)) w.heap.size cs 25) := hide (fun cs => Blk.new _ _ _)
  have HB : Hid (∀ o, Below w.heap.size w (w.alloc o)) := hide (fun o => (Below.refl _ _).alloc (Nat.le_refl _) _)
  have HZ : Hid (∀ o, (w.alloc o).heap.size = w.heap.size + 1) := hide (fun o => by simp)
  have hs' : decide ((16777216 : Int) < (s.size : Int)) = false := by simp; omega
  have ha' : decide ((a : Int) < 0) = false := by simp
  have ha2 : decide ((s.size : Int) < (a : Int)) = false := by simp; omega
  have hJs := blanks_le s a ha
  have CB := fun x => blanks_any s a x (by omega) ha
  have CO := fun x => read_q s hs (3 * s.size + 2) (blanksV s.data.toList a) 0 x hJs (by omega) (by omega)
  obtain ⟨J, hJ⟩ : ∃ J, blanksV s.data.toList a = J := ⟨_, rfl⟩
  rw [hJ] at CB CO HR
  rw [HR] at CO
  have CB := hide CB
  have CO := hide CO
  clear HR hJ hJs
  go_enter Tryz.func15, Tryz.ntmps15
  go_wp2_with (first | (go_at_call 26; refine (CB.out _).mono ?_; rintro e w9 ⟨rfl, hw9⟩; replace hw9 := hw9.symm; subst hw9) | (go_at_call 25; refine (CO.out _).mono ?_; rintro e w2 ⟨⟨p, ka, kc, ia, n, ic, q, rfl⟩, hb2⟩; obtain ⟨⟨r0, r1, r2, r3, r4, r5⟩, ⟨y0, y1, y2, y3, y4, y5⟩⟩ := ((HK.out zobj).below hb2).six; have hls := ((HK.out zobj).below hb2).lt; have HB3 := hide (below_t5 (HB.out _) hb2); have HK3 := hide ((HK.out zobj).below hb2); clear hb2))
  exact pars_fin (p := ⟨0, false, 0, ⟨#[]⟩, []⟩) (ka := none) (kc := 0) (ia := none) (n := 0) (ic := 0) (q := 0) (er := 50) (Blk.below (st6_blk HK3.out (.int .i64 0) (.bool false) (.int .i64 0) (.string ⟨#[]⟩) (.slice none 0 0) (.slice none 0 0)) ((Below.refl _ _).alloc (Nat.le_refl _) _)) ⟨rfl, (st6_below HB3.out (Nat.le_refl _) _ _ _ _ _ _).alloc (by rw [st6_size]; exact Nat.le_of_lt hls) _⟩ _ rfl rfl rfl rfl
set_option maxRecDepth 8000 in
set_option maxHeartbeats 1000000 in
theorem rpa_bad (s : ByteArray) (a : Nat) (w : World) (hs : s.size ≤ 65536) (ha : a ≤ s.size) (p : Pay) (T : BT Pay) (q : Nat) (HR : (recQ s.data.toList (3 * s.size + 2)).ob (blanksV s.data.toList a) 0 = some (p, T, q)) (hg : decide (0 < cntV p T) = false) :
    Calls Tryz.prog 15 #[.string s, .int .i64 a] w fun e w' => e = .returned (.tuple #[zov, .int .i64 0, .int .i64 50]) ∧ Below w.heap.size w w' := by
  have HK : Hid (∀ cs, Blk (w.alloc (.cells cs 25)) w.heap.size cs 25) := hide (fun cs => Blk.new _ _ _)
  have HB : Hid (∀ o, Below w.heap.size w (w.alloc o)) := hide (fun o => (Below.refl _ _).alloc (Nat.le_refl _) _)
  have HZ : Hid (∀ o, (w.alloc o).heap.size = w.heap.size + 1) := hide (fun o => by simp)
  have hs' : decide ((16777216 : Int) < (s.size : Int)) = false := by simp; omega
  have ha' : decide ((a : Int) < 0) = false := by simp
  have ha2 : decide ((s.size : Int) < (a : Int)) = false := by simp; omega
  have hJs := blanks_le s a ha
  have CB := fun x => blanks_any s a x (by omega) ha
  have CO := fun x => read_q s hs (3 * s.size + 2) (blanksV s.data.toList a) 0 x hJs (by omega) (by omega)
  have CG := fun ka kc ia ic x (h : OIn x p T ka kc ia ic) => rgood_any p T ka kc ia ic x h
  rw [hg] at CG
  have CG := hide CG
  obtain ⟨J, hJ⟩ : ∃ J, blanksV s.data.toList a = J := ⟨_, rfl⟩
  rw [hJ] at CB CO HR
  rw [HR] at CO
  have CB := hide CB
  have CO := hide CO
  clear HR hJ hJs
  go_enter Tryz.func15, Tryz.ntmps15
  go_wp2_with (first | (go_at_call 26; refine (CB.out _).mono ?_; rintro e w9 ⟨rfl, hw9⟩; replace hw9 := hw9.symm; subst hw9) | (go_at_call 25; refine (CO.out _).mono ?_; rintro e w2 ⟨⟨ka, kc, ia, ic, rfl, hin⟩, hb2⟩; obtain ⟨⟨r0, r1, r2, r3, r4, r5⟩, ⟨y0, y1, y2, y3, y4, y5⟩⟩ := ((HK.out zobj).below hb2).six; have hls := ((HK.out zobj).below hb2).lt; have HB3 := hide (below_t5 (HB.out _) hb2); have HK3 := hide ((HK.out zobj).below hb2); rw [HZ.out] at hin; have hal := (Below.refl w2.heap.size w2).alloc (Nat.le_refl _) (.cells (obox p ka kc ia (flen T) ic) 25); have HI3 := hide hin; have HI4 := hide ((hin.sub (only_sub_all _ _)).below hal); have HB4 := hide (below_t5 HB3.out hal); have HK4 := hide (HK3.out.below hal); have HX4 := hide (Blk.new w2 (obox p ka kc ia (flen T) ic) 25); clear hin hal; clear hb2) | (go_at_call 18; refine (CG.out _ _ _ _ _ HI4.out).mono ?_; rintro e w5 ⟨rfl, hb5⟩; clear r0 r1 r2 r3 r4 r5 y0 y1 y2 y3 y4 y5; obtain ⟨⟨r0, r1, r2, r3, r4, r5⟩, ⟨y0, y1, y2, y3, y4, y5⟩⟩ := (HK4.out.below hb5).six; obtain ⟨⟨x0, x1, x2, x3, x4, x5⟩, _⟩ := (HX4.out.below hb5).six; have HB5 := hide (below_t5 HB4.out hb5); have HK5 := hide (HK4.out.below hb5); have HI5 := hide (HI3.out.sub (fresh_le (Nat.le_refl _) (below_t5 ((Below.refl w2.heap.size w2).alloc (Nat.le_refl _) (.cells (obox p ka kc ia (flen T) ic) 25)) hb5))); clear hb5))
  exact pars_fin (p := ⟨0, false, 0, ⟨#[]⟩, []⟩) (ka := none) (kc := 0) (ia := none) (n := 0) (ic := 0) (q := 0) (er := 50) (st6_blk HK5.out (.int .i64 0) (.bool false) (.int .i64 0) (.string ⟨#[]⟩) (.slice none 0 0) (.slice none 0 0)) ⟨rfl, st6_below HB5.out (Nat.le_refl _) _ _ _ _ _ _⟩ _ rfl rfl rfl rfl
set_option maxRecDepth 8000 in
set_option maxHeartbeats 1000000 in
theorem rpa_fine (s : ByteArray) (a : Nat) (w : World) (hs : s.size ≤ 65536) (ha : a ≤ s.size) (p : Pay) (T : BT Pay) (q : Nat) (HR : (recQ s.data.toList (3 * s.size + 2)).ob (blanksV s.data.toList a) 0 = some (p, T, q)) (hg : decide (0 < cntV p T) = true) :
    Calls Tryz.prog 15 #[.string s, .int .i64 a] w fun e w' => (∃ ka kc ia ic, e = .returned (.tuple #[ov p ka kc ia (flen T) ic, .int .i64 q, .int .i64 0]) ∧ OIn (fresh w.heap.size w') p T ka kc ia ic) ∧ Below w.heap.size w w' := by
  have HK : Hid (∀ cs, Blk (w.alloc (.cells cs 25)) w.heap.size cs 25) := hide (fun cs => Blk.new _ _ _)
  have HB : Hid (∀ o, Below w.heap.size w (w.alloc o)) := hide (fun o => (Below.refl _ _).alloc (Nat.le_refl _) _)
  have HZ : Hid (∀ o, (w.alloc o).heap.size = w.heap.size + 1) := hide (fun o => by simp)
  have hs' : decide ((16777216 : Int) < (s.size : Int)) = false := by simp; omega
  have ha' : decide ((a : Int) < 0) = false := by simp
  have ha2 : decide ((s.size : Int) < (a : Int)) = false := by simp; omega
  have hJs := blanks_le s a ha
  have CB := fun x => blanks_any s a x (by omega) ha
  have CO := fun x => read_q s hs (3 * s.size + 2) (blanksV s.data.toList a) 0 x hJs (by omega) (by omega)
  have CG := fun ka kc ia ic x (h : OIn x p T ka kc ia ic) => rgood_any p T ka kc ia ic x h
  rw [hg] at CG
  have CG := hide CG
  obtain ⟨J, hJ⟩ : ∃ J, blanksV s.data.toList a = J := ⟨_, rfl⟩
  rw [hJ] at CB CO HR
  rw [HR] at CO
  have CB := hide CB
  have CO := hide CO
  clear HR hJ hJs
  go_enter Tryz.func15, Tryz.ntmps15
  go_wp2_with (first | (go_at_call 26; refine (CB.out _).mono ?_; rintro e w9 ⟨rfl, hw9⟩; replace hw9 := hw9.symm; subst hw9) | (go_at_call 25; refine (CO.out _).mono ?_; rintro e w2 ⟨⟨ka, kc, ia, ic, rfl, hin⟩, hb2⟩; obtain ⟨⟨r0, r1, r2, r3, r4, r5⟩, ⟨y0, y1, y2, y3, y4, y5⟩⟩ := ((HK.out zobj).below hb2).six; have hls := ((HK.out zobj).below hb2).lt; have HB3 := hide (below_t5 (HB.out _) hb2); have HK3 := hide ((HK.out zobj).below hb2); rw [HZ.out] at hin; have hal := (Below.refl w2.heap.size w2).alloc (Nat.le_refl _) (.cells (obox p ka kc ia (flen T) ic) 25); have HI3 := hide hin; have HI4 := hide ((hin.sub (only_sub_all _ _)).below hal); have HB4 := hide (below_t5 HB3.out hal); have HK4 := hide (HK3.out.below hal); have HX4 := hide (Blk.new w2 (obox p ka kc ia (flen T) ic) 25); clear hin hal; clear hb2) | (go_at_call 18; refine (CG.out _ _ _ _ _ HI4.out).mono ?_; rintro e w5 ⟨rfl, hb5⟩; clear r0 r1 r2 r3 r4 r5 y0 y1 y2 y3 y4 y5; obtain ⟨⟨r0, r1, r2, r3, r4, r5⟩, ⟨y0, y1, y2, y3, y4, y5⟩⟩ := (HK4.out.below hb5).six; obtain ⟨⟨x0, x1, x2, x3, x4, x5⟩, _⟩ := (HX4.out.below hb5).six; have HB5 := hide (below_t5 HB4.out hb5); have HK5 := hide (HK4.out.below hb5); have HI5 := hide (HI3.out.sub (fresh_le (Nat.le_refl _) (below_t5 ((Below.refl w2.heap.size w2).alloc (Nat.le_refl _) (.cells (obox p ka kc ia (flen T) ic) 25)) hb5))); clear hb5))
  exact pars_fin (p := p) (ka := ka) (kc := kc) (ia := ia) (n := flen T) (ic := ic) (q := q) (er := 0) (st6_blk HK5.out (.int .i64 p.kind) (.bool p.flag) (.int .i64 p.num) (.string p.text) (.slice ka p.keys.length kc) (.slice ia (flen T) ic)) ⟨⟨ka, kc, ia, ic, rfl, HI5.out.sub (only_sub (Nat.le_of_eq (st6_size _ _ _ _ _ _ _ _).symm) fun k h1 _ => ⟨by omega, st6_block (w := w5) (b := w.heap.size) (k := k) (by omega) _ _ _ _ _ _⟩)⟩, st6_below HB5.out (Nat.le_refl _) _ _ _ _ _ _⟩ _ rfl rfl rfl rfl
set_option maxRecDepth 8000 in
set_option maxHeartbeats 1000000 in
theorem rpa_low (s : ByteArray) (i : Int) (w : World) (hs : s.size ≤ 65536) (hi : i < 0) :
    Calls Tryz.prog 15 #[.string s, .int .i64 i] w fun e w' => e = .returned (.tuple #[zov, .int .i64 0, .int .i64 1]) ∧ Below w.heap.size w w' := by
  have HK : Hid (∀ cs, Blk (w.alloc (.cells cs 25)) w.heap.size cs 25) := hide (fun cs => Blk.new _ _ _)
  have HB : Hid (∀ o, Below w.heap.size w (w.alloc o)) := hide (fun o => (Below.refl _ _).alloc (Nat.le_refl _) _)
  have hs' : decide ((16777216 : Int) < (s.size : Int)) = false := by simp; omega
  have h1 : decide (i < 0) = true := by simp; omega
  go_enter Tryz.func15, Tryz.ntmps15
  go_wp2_with fail
  exact pars_fin (p := ⟨0, false, 0, ⟨#[]⟩, []⟩) (ka := none) (kc := 0) (ia := none) (n := 0) (ic := 0) (q := 0) (er := 1) (HK.out _) ⟨rfl, HB.out _⟩ _ rfl rfl rfl rfl
set_option maxRecDepth 8000 in
set_option maxHeartbeats 1000000 in
theorem rpa_high (s : ByteArray) (i : Int) (w : World) (hs : s.size ≤ 65536) (hi : (s.size : Int) < i) :
    Calls Tryz.prog 15 #[.string s, .int .i64 i] w fun e w' => e = .returned (.tuple #[zov, .int .i64 0, .int .i64 1]) ∧ Below w.heap.size w w' := by
  have HK : Hid (∀ cs, Blk (w.alloc (.cells cs 25)) w.heap.size cs 25) := hide (fun cs => Blk.new _ _ _)
  have HB : Hid (∀ o, Below w.heap.size w (w.alloc o)) := hide (fun o => (Below.refl _ _).alloc (Nat.le_refl _) _)
  have hs' : decide ((16777216 : Int) < (s.size : Int)) = false := by simp; omega
  have h1 : decide (i < 0) = false := by simp; omega
  have h2 : decide ((s.size : Int) < i) = true := by simp; omega
  go_enter Tryz.func15, Tryz.ntmps15
  go_wp2_with fail
  exact pars_fin (p := ⟨0, false, 0, ⟨#[]⟩, []⟩) (ka := none) (kc := 0) (ia := none) (n := 0) (ic := 0) (q := 0) (er := 1) (HK.out _) ⟨rfl, HB.out _⟩ _ rfl rfl rfl rfl
end Go.Proofs.YtalmcdbdibpgkaaGreatDoor
