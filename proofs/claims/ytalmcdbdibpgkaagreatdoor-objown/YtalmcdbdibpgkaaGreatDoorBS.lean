/-
  Joined: O5Lpr, O5Lpa, O5Lpb.
-/
import Derived.Test.YtalmcdbdibpgkaaGreatDoorBQ
import Derived.Test.YtalmcdbdibpgkaaGreatDoorBR
import Derived.Test.YtalmcdbdibpgkaaGreatDoorBC
/-
  What the landed object answers, whatever stands there.
-/
namespace Go.Proofs.YtalmcdbdibpgkaaGreatDoor
open Go.RowKit Go.Deep
set_option linter.unusedVariables false

theorem goodV_leaf (p : Pay) (nest n : Int) (hn : n ≤ 65535) (hc : cont p = false) : goodV p .nil nest n = if flatV p 0 = true then n + 1 else -1 := by
  unfold goodV gV
  by_cases hf : flatV p 0 = true
  · rw [if_neg (by rintro (h | h); omega; rw [show flen (BT.nil : BT Pay) = 0 from rfl] at h; rw [hf] at h; cases h), hc, if_neg (by simp), if_pos hf]; rfl
  · rw [if_pos (Or.inr (by rw [show flen (BT.nil : BT Pay) = 0 from rfl]; simpa using hf)), if_neg hf]
theorem goodV_cont (p : Pay) (T : BT Pay) (nest n : Int) (hn : n ≤ 65535) (hc : cont p = true) : goodV p T nest n = if flatV p (flen T) = true ∧ nest + 1 ≤ 32 then goodF T (nest + 1) (n + 1) else -1 := by
  unfold goodV gV
  by_cases hf : flatV p (flen T) = true
  · rw [if_neg (by rintro (h | h); omega; rw [hf] at h; cases h), if_pos hc]
    by_cases hd : nest + 1 ≤ 32
    · rw [if_neg (by omega), if_pos ⟨hf, hd⟩]
    · rw [if_pos (by omega), if_neg (fun h => hd h.2)]
  · rw [if_pos (Or.inr (by simpa using hf)), if_neg (fun h => hf h.1)]
theorem obr_thrown {W0 : World} {b : Nat} {w w' : World} {s : ByteArray} {nest : Nat} {n : Int} {R : Option (Pay × BT Pay × Nat)} (h : ∀ p T q, R = some (p, T, q) → ¬ 0 ≤ goodV p T nest n) (hb : But b w w') : ObR W0 b w s nest n R thrown w' := by
  rcases R with _ | ⟨p, T, q⟩
  · exact ⟨rfl, hb⟩
  · unfold ObR
    dsimp only
    rw [if_neg (h p T q rfl)]
    exact ⟨rfl, hb⟩
theorem obr_leaf {W0 : World} {b : Nat} {w w' : World} {s : ByteArray} {nest : Nat} {n : Int} {p : Pay} {q : Nat} {e : Ending} (hn : n ≤ 65535) (hn0 : 0 ≤ n) (hc : cont p = false) (h : ObF W0 b w s (some (p, .nil, q, 65536 - n - 1)) e w') : ObR W0 b w s nest n (some (p, .nil, q)) e w' := by
  unfold ObF at h
  unfold ObR
  dsimp only at h ⊢
  rw [goodV_leaf p nest n hn hc]
  by_cases hf : flatV p 0 = true
  · rw [show flen (BT.nil : BT Pay) = 0 from rfl, if_pos hf] at h
    rw [if_pos hf, if_pos (by omega), show (65536 : Int) - (n + 1) = 65536 - n - 1 by omega]
    exact h
  · rw [show flen (BT.nil : BT Pay) = 0 from rfl, if_neg hf] at h
    rw [if_neg hf, if_neg (by omega)]
    exact h
theorem obr_cont {W0 : World} {b : Nat} {w w' : World} {s : ByteArray} {nest : Nat} {n : Int} {p : Pay} {T : BT Pay} {q : Nat} {e : Ending} (hn : n ≤ 65535) (hc : cont p = true) (hd : (nest : Int) + 1 ≤ 32) (hg : 0 ≤ goodF T (nest + 1) (n + 1)) (h : ObF W0 b w s (some (p, T, q, 65536 - goodF T (nest + 1) (n + 1))) e w') : ObR W0 b w s nest n (some (p, T, q)) e w' := by
  unfold ObF at h
  unfold ObR
  dsimp only at h ⊢
  by_cases hf : flatV p (flen T) = true
  · have hv : goodV p T nest n = goodF T (nest + 1) (n + 1) := by rw [goodV_cont p T nest n hn hc, if_pos ⟨hf, hd⟩]
    rw [if_pos hf] at h
    rw [hv, if_pos hg]
    exact h
  · have hv : goodV p T nest n = -1 := by rw [goodV_cont p T nest n hn hc, if_neg (fun h => hf h.1)]
    rw [if_neg hf] at h
    rw [hv, if_neg (by omega)]
    exact h
theorem obf_none {W0 : World} {b : Nat} {w w' : World} {s : ByteArray} {e : Ending} (h : ObF W0 b w s none e w') : e = thrown ∧ But b w w' := h
theorem wd_cont (l : List UInt8) (a : Nat) (p : Pay) (q : Nat) (h : wdV l a = some (p, q)) : cont p = false ∧ p.keys = [] ∧ p.text = ⟨#[]⟩ := by
  unfold wdV wdP at h
  split at h
  · simp only [Option.some.injEq, Prod.mk.injEq] at h; rw [← h.1]; exact ⟨rfl, rfl, rfl⟩
  split at h
  · simp only [Option.some.injEq, Prod.mk.injEq] at h; rw [← h.1]; exact ⟨rfl, rfl, rfl⟩
  split at h
  · simp only [Option.some.injEq, Prod.mk.injEq] at h; rw [← h.1]; exact ⟨rfl, rfl, rfl⟩
  generalize (l.drop a).take (wordV l a - a) = wl at h
  cases hai : aiV wl with
  | none =>
    rw [hai] at h
    simp only at h
    split at h
    · simp only [Option.some.injEq, Prod.mk.injEq] at h; rw [← h.1]; exact ⟨rfl, rfl, rfl⟩
    · cases h
  | some x =>
    rw [hai] at h
    simp only at h
    cases hr : refV l (wordV l a) with
    | none => rw [hr] at h; simp only [Option.some.injEq, Prod.mk.injEq] at h; rw [← h.1]; exact ⟨rfl, rfl, rfl⟩
    | some e2 => rw [hr] at h; simp only [Option.some.injEq, Prod.mk.injEq] at h; rw [← h.1]; exact ⟨rfl, rfl, rfl⟩
theorem ai_bd {l : List UInt8} {x : Int} (h : aiV l = some x) : -9223372036854775808 ≤ x ∧ x ≤ 9223372036854775807 := by
  unfold aiV at h
  cases hA : Lib.atoiAll l with
  | ok y =>
    rw [hA] at h
    simp only at h
    split at h
    · simp only [Option.some.injEq] at h; rw [← h]; exact atoi_bd hA
    · cases h
  | «syntax» => rw [hA] at h; cases h
  | range => rw [hA] at h; cases h
theorem par_bd {l : List UInt8} (h : D2.parB l = true) : -1099511627776 ≤ D2.parV l ∧ D2.parV l ≤ 1099511627776 := by
  have h' := h
  unfold D2.parB at h'
  simp only [Bool.and_eq_true, decide_eq_true_eq] at h'
  have := D2.nearP_in l h'.1
  unfold D2.parV
  rw [if_pos h]
  unfold inB at this
  simpa using this
theorem zp_ok (k : Int) (f : Bool) (x : Int) (hk : 0 ≤ k ∧ k ≤ 8) (hx : -9223372036854775808 ≤ x ∧ x ≤ 9223372036854775807) : (zp k f x).ok := ⟨⟨by simp only; omega, by simp only; omega⟩, ⟨hx.1, hx.2⟩, by simp [ByteArray.size], by simp⟩
theorem wd_ok (l : List UInt8) (a : Nat) (p : Pay) (q : Nat) (h : wdV l a = some (p, q)) : p.ok := by
  unfold wdV wdP at h
  split at h
  · simp only [Option.some.injEq, Prod.mk.injEq] at h; rw [← h.1]; exact zp_ok _ _ _ (by omega) (by omega)
  split at h
  · simp only [Option.some.injEq, Prod.mk.injEq] at h; rw [← h.1]; exact zp_ok _ _ _ (by omega) (by omega)
  split at h
  · simp only [Option.some.injEq, Prod.mk.injEq] at h; rw [← h.1]; exact zp_ok _ _ _ (by omega) (by omega)
  generalize (l.drop a).take (wordV l a - a) = wl at h
  cases hai : aiV wl with
  | none =>
    rw [hai] at h
    simp only at h
    split at h
    · rename_i hp
      have := par_bd hp
      simp only [Option.some.injEq, Prod.mk.injEq] at h; rw [← h.1]; exact zp_ok _ _ _ (by omega) (by omega)
    · cases h
  | some x =>
    have hb := ai_bd hai
    rw [hai] at h
    simp only at h
    cases hr : refV l (wordV l a) with
    | none => rw [hr] at h; simp only [Option.some.injEq, Prod.mk.injEq] at h; rw [← h.1]; exact zp_ok _ _ _ (by omega) hb
    | some e2 => rw [hr] at h; simp only [Option.some.injEq, Prod.mk.injEq] at h; rw [← h.1]; exact zp_ok _ _ _ (by omega) hb
set_option maxRecDepth 8000 in
set_option maxHeartbeats 1000000 in
theorem ob_zero (b : Nat) (s : ByteArray) (a : Nat) (deep : Int) (w : World) (h : RAt w b s a 0) :
    Calls Tryz.prog 24 #[.pointer (some ⟨b, 0, none⟩), .int .i64 deep] w fun e w' => e = thrown ∧ But b w w' := by
  have hlt := h.lt
  obtain ⟨⟨c0, c1, c2⟩, z0, z1, z2⟩ := h.three
  have CMF := hide must_f
  have HB : Hid (But b w ((w.setCell ⟨b, 2, none⟩ (.int .i64 (-1))).alloc (.cells zobj 25))) := hide ((But.setCell b w 2 (.int .i64 (-1))).trans (But.of_below ((Below.refl _ _).alloc (Nat.le_refl _) _)))
  clear h
  go_enter Tryz.func24, Tryz.ntmps24
  go_wp2_with fail
  refine (CMF.out _).mono ?_
  rintro e wm ⟨rfl, rfl⟩
  exact ⟨rfl, rfl, HB.out⟩
theorem hp_len {l : List UInt8} {A k : Nat} {p : List UInt8} (h : Lib.hasPrefix (l.drop A) p = true) (hk : p.length = k) : A + k ≤ l.length ∨ k = 0 := by
  have := hasP_len h
  rw [List.length_drop] at this
  omega
theorem tx_len {l : List UInt8} {A : Nat} {R : Option (List UInt8 × Nat)} (h : ∀ q, R = some q → q.1.length ≤ l.length) (hl : l.length ≤ 16777216) : ∀ q, R = some q → q.1.length ≤ 9223372036854775807 := fun q hq => by have := h q hq; omega
theorem dR_le : ∀ (f : Nat) (l : List UInt8) (p : Nat) (acc bs : List UInt8) (q : Nat), dR f l p acc = some (bs, q) → bs.length ≤ acc.length + l.length
  | 0, _, _, _, _, _, h => by simp [dR] at h
  | _ + 1, [], _, _, _, _, h => by simp [dR] at h
  | f + 1, c :: l, p, acc, bs, q, h => by
    rw [dR_cons] at h
    split at h
    · simp only [Option.some.injEq, Prod.mk.injEq] at h; rw [← h.1]; omega
    · cases l with
      | nil => cases h
      | cons d l' =>
        simp only at h
        split at h
        · have := dR_le f l' (p + 2) _ bs q h
          simp only [List.length_append, List.length_cons, List.length_nil] at this ⊢
          omega
        · cases h
theorem qR_len : ∀ (f : Nat) (l : List UInt8) (o p : Nat) (acc bs : List UInt8) (q : Nat), qR f l o p acc = some (bs, q) → bs.length ≤ acc.length + f
  | 0, _, _, _, _, _, _, h => by simp [qR] at h
  | _ + 1, [], _, _, _, _, _, h => by simp [qR] at h
  | f + 1, c :: l, o, p, acc, bs, q, h => by
    rw [qR] at h
    split at h
    · have := qR_len f l _ _ _ bs q h; simp only [List.length_append, List.length_singleton] at this; omega
    split at h
    · split at h
      · simp only [Option.some.injEq, Prod.mk.injEq] at h; rw [← h.1]; omega
      · have := qR_len f l _ _ _ bs q h; simp only [List.length_append, List.length_singleton] at this; omega
    split at h
    · cases hx : escV l with
      | none => rw [hx] at h; cases h
      | some y =>
        obtain ⟨x, n⟩ := y
        rw [hx] at h
        have := qR_len f _ _ _ _ bs q h; simp only [List.length_append, List.length_singleton] at this; omega
    · have := qR_len f l _ _ _ bs q h; simp only [List.length_append, List.length_singleton] at this; omega
theorem tlen_dig {s : ByteArray} {A : Nat} {q : List UInt8 × Nat} (h : digV (s.data.toList.drop A) A = some q) (hsl : s.data.toList.length = s.size) (hs : s.size ≤ 16777216) : q.1.length ≤ 9223372036854775807 := by
  have := dR_le _ _ _ _ _ _ h
  rw [List.length_drop, List.length_nil] at this
  omega
theorem tlen_quo {s : ByteArray} {A : Nat} {q : List UInt8 × Nat} (h : quoV (s.data.toList.drop A) A = some q) (hsl : s.data.toList.length = s.size) (hs : s.size ≤ 16777216) : q.1.length ≤ 9223372036854775807 := by
  have := qR_len _ _ _ _ _ _ _ h
  rw [List.length_drop, List.length_nil] at this
  omega
theorem tlen_nm {s : ByteArray} {A : Nat} {q : List UInt8 × Nat} (h : nmV (s.data.toList.drop A) A = some q) (hsl : s.data.toList.length = s.size) (hs : s.size ≤ 16777216) : q.1.length ≤ 9223372036854775807 := by
  have := nR_le _ _ _ _ _ _ (Nat.le_refl _) h
  rw [List.length_drop, List.length_nil] at this
  omega
theorem ob_step (W0 : World) (hgl : Glo5 W0) (f : Nat) (ih : ∀ g, g < f → ObC W0 g) : ObC W0 f := by
  intro b s a nest n w h hs hne hn0 hn1 hfu
  obtain ⟨f, rfl⟩ : ∃ f', f = f' + 1 := ⟨f - 1, by omega⟩
  by_cases hN : n = 65536
  · subst hN
    refine (ob_zero b s a _ w (by simpa using h.rat)).mono ?_
    rintro e w' ⟨rfl, hb⟩
    refine obr_thrown (fun p T q _ hg => ?_) hb
    unfold goodV gV at hg
    rw [if_pos (Or.inl (by omega))] at hg
    omega
  have hn2 : n ≤ 65535 := by omega
  rw [ob_succ]
  unfold obS
  obtain ⟨A, hA⟩ : ∃ A, blanksV s.data.toList a = A := ⟨_, rfl⟩
  rw [hA]
  have hAs : A ≤ s.size := by rw [← hA]; exact blanks_le s a h.le
  have haA : a ≤ A := by rw [← hA]; exact blanks_ge _ _
  have hsl : s.data.toList.length = s.size := (Lib.size_eq s).symm
  have e1 : (65536 : Int) - n - 1 = 65536 - (n + 1) := by omega
  cases p0 : Lib.hasPrefix (s.data.toList.drop A) [60, 60]
  case true =>
    rw [if_pos rfl]
    have hA2 := hp_len p0 rfl
    by_cases hd : nest + 1 ≤ 32
    · obtain ⟨X, hX⟩ : ∃ X, (rec5 s.data.toList f).di (A + 2) (nest + 1) = X := ⟨_, rfl⟩
      rw [hX]
      refine (ob_dict W0 b s a (65536 - n) (nest + 1) w h hs (by omega) (by omega) A hA p0 (X.bind fun q => if 0 ≤ goodF q.2.1 (nest + 1) (n + 1) then some (kp q.1, q.2.1, q.2.2, 65536 - goodF q.2.1 (nest + 1) (n + 1)) else none) (fun w' h' => ?_)).mono ?_
      · rw [e1] at h'
        have := dict_rc W0 hgl (f + 1) ih f (by omega) b s (A + 2) (nest + 1) (n + 1) w' h' hs hd (by omega) (by omega) (by simp only [List.length_cons, List.length_nil] at hA2; omega)
        rw [hX] at this
        refine this.mono ?_
        intro e w2 h2
        rcases X with _ | ⟨ks, T, q⟩
        · exact h2
        · unfold DiR at h2
          dsimp only at h2
          simp only [Option.bind_some]
          by_cases hg : 0 ≤ goodF T (nest + 1) (n + 1)
          · rw [if_pos (by exact hg)] at h2
            rw [if_pos hg]
            exact h2
          · rw [if_neg (by exact hg)] at h2
            rw [if_neg hg]
            exact h2
      · intro e w2 h2
        rcases X with _ | ⟨ks, T, q⟩
        · exact h2
        · simp only [Option.bind_some] at h2
          simp only [Option.map_some]
          by_cases hg : 0 ≤ goodF T (nest + 1) (n + 1)
          · rw [if_pos hg] at h2
            exact obr_cont hn2 rfl (by omega) hg h2
          · rw [if_neg hg] at h2
            obtain ⟨rfl, hb⟩ := obf_none h2
            refine obr_thrown (fun p T' q' he => ?_) hb
            simp only [Option.some.injEq, Prod.mk.injEq] at he
            obtain ⟨rfl, rfl, _⟩ := he
            rw [goodV_cont _ _ _ _ hn2 rfl]
            split
            · exact hg
            · omega
    · refine (ob_dict W0 b s a (65536 - n) (nest + 1) w h hs (by omega) (by omega) A hA p0 none (fun w' h' => (dict_deep b _ w' (by omega)).mono fun e w2 h2 => h2)).mono ?_
      intro e w2 h2
      obtain ⟨rfl, hb⟩ := obf_none h2
      refine obr_thrown (fun p T' q' he => ?_) hb
      cases hX : (rec5 s.data.toList f).di (A + 2) (nest + 1) with
      | none => rw [hX] at he; cases he
      | some y =>
        rw [hX] at he
        simp only [Option.map_some, Option.some.injEq, Prod.mk.injEq] at he
        obtain ⟨rfl, rfl, _⟩ := he
        rw [goodV_cont _ _ _ _ hn2 rfl, if_neg (fun h => hd (by omega))]
        omega
  case false =>
    rw [if_neg (by simp)]
    cases p1 : Lib.hasPrefix (s.data.toList.drop A) [91]
    case true =>
      rw [if_pos rfl]
      have hA2 := hp_len p1 rfl
      by_cases hd : nest + 1 ≤ 32
      · obtain ⟨X, hX⟩ : ∃ X, (rec5 s.data.toList f).li (A + 1) (nest + 1) = X := ⟨_, rfl⟩
        rw [hX]
        refine (ob_arr W0 b s a (65536 - n) (nest + 1) w h hs (by omega) (by omega) A hA p0 p1 (X.bind fun q => if 0 ≤ goodF q.1 (nest + 1) (n + 1) then some (arrP, q.1, q.2, 65536 - goodF q.1 (nest + 1) (n + 1)) else none) (fun w' h' => ?_)).mono ?_
        · rw [e1] at h'
          have := array_rc W0 (f + 1) ih f (by omega) b s (A + 1) (nest + 1) (n + 1) w' h' hs hd (by omega) (by omega) (by simp only [List.length_cons, List.length_nil] at hA2; omega)
          rw [hX] at this
          refine this.mono ?_
          intro e w2 h2
          rcases X with _ | ⟨T, q⟩
          · exact h2
          · unfold ArR at h2
            dsimp only at h2
            simp only [Option.bind_some]
            by_cases hg : 0 ≤ goodF T (nest + 1) (n + 1)
            · rw [if_pos (by exact hg)] at h2
              rw [if_pos hg]
              obtain ⟨⟨ia, ic, h3, h4⟩, h5⟩ := h2
              exact ⟨⟨none, 0, ia, ic, h3, h4⟩, h5⟩
            · rw [if_neg (by exact hg)] at h2
              rw [if_neg hg]
              exact h2
        · intro e w2 h2
          rcases X with _ | ⟨T, q⟩
          · exact h2
          · simp only [Option.bind_some] at h2
            simp only [Option.map_some]
            by_cases hg : 0 ≤ goodF T (nest + 1) (n + 1)
            · rw [if_pos hg] at h2
              exact obr_cont hn2 rfl (by omega) hg h2
            · rw [if_neg hg] at h2
              obtain ⟨rfl, hb⟩ := obf_none h2
              refine obr_thrown (fun p T' q' he => ?_) hb
              simp only [Option.some.injEq, Prod.mk.injEq] at he
              obtain ⟨rfl, rfl, _⟩ := he
              rw [goodV_cont _ _ _ _ hn2 rfl]
              split
              · exact hg
              · omega
      · refine (ob_arr W0 b s a (65536 - n) (nest + 1) w h hs (by omega) (by omega) A hA p0 p1 none (fun w' h' => (array_deep b _ w' (by omega)).mono fun e w2 h2 => h2)).mono ?_
        intro e w2 h2
        obtain ⟨rfl, hb⟩ := obf_none h2
        refine obr_thrown (fun p T' q' he => ?_) hb
        cases hX : (rec5 s.data.toList f).li (A + 1) (nest + 1) with
        | none => rw [hX] at he; cases he
        | some y =>
          rw [hX] at he
          simp only [Option.map_some, Option.some.injEq, Prod.mk.injEq] at he
          obtain ⟨rfl, rfl, _⟩ := he
          rw [goodV_cont _ _ _ _ hn2 rfl, if_neg (fun h => hd (by omega))]
          omega
    case false =>
      rw [if_neg (by simp)]
      cases p2 : Lib.hasPrefix (s.data.toList.drop A) [60]
      case true =>
        rw [if_pos rfl]
        have hA2 := hp_len p2 rfl
        obtain ⟨X, hX⟩ : ∃ X, digV (s.data.toList.drop (A + 1)) (A + 1) = X := ⟨_, rfl⟩
        rw [hX]
        refine (ob_hex W0 b s a (65536 - n) _ w h hs (by omega) (by omega) A hA p0 p1 p2 X (fun q hq => by rw [hq] at hX; exact tlen_dig hX hsl hs) (fun w' h' => hexText_rc W0 hgl b s (A + 1) _ w' h' hs X hX)).mono ?_
        intro e w2 h2
        rcases X with _ | ⟨t, q⟩
        · exact h2
        · exact obr_leaf hn2 hn0 rfl h2
      case false =>
        rw [if_neg (by simp)]
        cases p3 : Lib.hasPrefix (s.data.toList.drop A) [40]
        case true =>
          rw [if_pos rfl]
          obtain ⟨X, hX⟩ : ∃ X, quoV (s.data.toList.drop (A + 1)) (A + 1) = X := ⟨_, rfl⟩
          rw [hX]
          refine (ob_plain W0 b s a (65536 - n) _ w h hs (by omega) (by omega) A hA p0 p1 p2 p3 X (fun q hq => by rw [hq] at hX; exact tlen_quo hX hsl hs) (fun w' h' => plainText_rc W0 hgl b s (A + 1) _ w' h' hs X hX)).mono ?_
          intro e w2 h2
          rcases X with _ | ⟨t, q⟩
          · exact h2
          · exact obr_leaf hn2 hn0 rfl h2
        case false =>
          rw [if_neg (by simp)]
          cases p4 : Lib.hasPrefix (s.data.toList.drop A) [47]
          case true =>
            rw [if_pos rfl]
            obtain ⟨X, hX⟩ : ∃ X, nmV (s.data.toList.drop (A + 1)) (A + 1) = X := ⟨_, rfl⟩
            rw [hX]
            refine (ob_name W0 b s a (65536 - n) _ w h hs (by omega) (by omega) A hA p0 p1 p2 p3 p4 X (fun q hq => by rw [hq] at hX; exact tlen_nm hX hsl hs) (fun w' h' => name_rc W0 hgl b s (A + 1) _ w' h' hs X hX)).mono ?_
            intro e w2 h2
            rcases X with _ | ⟨t, q⟩
            · exact h2
            · exact obr_leaf hn2 hn0 rfl h2
          case false =>
            rw [if_neg (by simp)]
            obtain ⟨X, hX⟩ : ∃ X, wdV s.data.toList A = X := ⟨_, rfl⟩
            rw [hX]
            refine (ob_word W0 b s a (65536 - n) _ w h hs (by omega) (by omega) A hA p0 p1 p2 p3 p4 (X.map fun q => (q.1, BT.nil, q.2, 65536 - n - 1)) (fun w' h' => ?_)).mono ?_
            · have := word_rc W0 hgl b s A _ w' h' hs
              rw [hX] at this
              refine this.mono ?_
              intro e w2 h2
              rcases X with _ | ⟨p, q⟩
              · exact h2
              · obtain ⟨h3, h4, h5⟩ := h2
                obtain ⟨k1, k2, k3⟩ := wd_cont _ _ _ _ hX
                exact ⟨⟨none, 0, none, 0, h3, oin_leaf _ _ (wd_ok _ _ _ _ hX) k2⟩, h4, h5⟩
            · intro e w2 h2
              rcases X with _ | ⟨p, q⟩
              · exact h2
              · exact obr_leaf hn2 hn0 (wd_cont _ _ _ _ hX).1 h2
theorem ob_all (W0 : World) (hgl : Glo5 W0) (f : Nat) : ∀ g, g < f → ObC W0 g := by
  induction f with
  | zero => exact fun g h => absurd h (Nat.not_lt_zero _)
  | succ f ihf => exact fun g h => ob_step W0 hgl g (fun k hk => ihf k (by omega))
end Go.Proofs.YtalmcdbdibpgkaaGreatDoor
/-
  What the landed Parse answers, whatever it reads.
-/
namespace Go.Proofs.YtalmcdbdibpgkaaGreatDoor
open Go.RowKit Go.Deep
set_option linter.unusedVariables false

abbrev zov : Value := .agg #[.int .i64 0, .bool false, .int .i64 0, .string ⟨#[]⟩, .slice none 0 0, .slice none 0 0]
theorem catch_thrown (B : Nat) (w : World) (x0 : Int) (x2 x3 x4 x5 y0 y1 : Value) (u : TypeId) (pv : Value) (hk : Blk w B #[.int .i64 x0, .bool false, x2, x3, x4, x5] 25) (hi : Blk w (B + 1) #[y0] 3) (he : Blk w (B + 1 + 1) #[y1] 29) :
    CallsD Tryz.prog 23 #[.pointer (some ⟨B, 0, none⟩), .pointer (some ⟨B + 1, 0, none⟩), .pointer (some ⟨B + 1 + 1, 0, none⟩)] (.panicking [{ v := .iface u pv, recovered := false }]) w fun e u' w' =>
      e = .returned (.tuple #[]) ∧ u' = .panicking [{ v := .iface u pv, recovered := true }] ∧ w' = ((st6 w B (.int .i64 0) (.bool false) (.int .i64 0) (.string ⟨#[]⟩) (.slice none 0 0) (.slice none 0 0)).setCell ⟨B + 1, 0, none⟩ (.int .i64 0)).setCell ⟨B + 1 + 1, 0, none⟩ (.int .i64 50) := by
  obtain ⟨⟨r0, r1, r2, r3, r4, r5⟩, ⟨z0, z1, z2, z3, z4, z5⟩⟩ := hk.six
  have c1 := hi.cell 0
  have f1 := hi.frozen 0
  have c2 := he.cell 0
  have f2 := he.frozen 0
  simp at c1 c2
  refine callsD_of_wpS Tryz.func23 rfl fun c₀ cs hu => ?_
  apply wpS_seq
  apply wpS_region
  simp [wpOpsS, go_sem, recoverD, hu, Tryz.ntmps23, Exit.thenS]
  refine wpS_cond (t := true) (by simp [Act.eval, Array.replicate]) ?_
  simp only [if_true]
  apply wpS_region
  simp [wpOpsS, go_sem, r0, r1, r2, r3, r4, r5, z0, z1, z2, z3, z4, z5, c1, c2, f1, f2, bodyPostS, results, Tryz.results23]
set_option maxRecDepth 8000 in
set_option maxHeartbeats 4000000 in
theorem parse_fine (s : ByteArray) (a : Nat) (w : World) (hs : s.size ≤ 16777216) (ha : a ≤ s.size) (p : Pay) (T : BT Pay) (e2 : Nat) (lq : Int)
    (HO : ∀ b w0, RAt w0 b s a 65536 → Below w.heap.size w w0 → w.heap.size ≤ b → Calls Tryz.prog 24 #[.pointer (some ⟨b, 0, none⟩), .int .i64 1] w0 fun e w' => (∃ ka kc ia ic, e = .returned (ov p ka kc ia (flen T) ic) ∧ OIn (fresh w0.heap.size w') p T ka kc ia ic) ∧ But b w0 w' ∧ RAt w' b s e2 lq) :
    Calls Tryz.prog 14 #[.string s, .int .i64 a] w fun e w' => (∃ ka kc ia ic, e = .returned (.tuple #[ov p ka kc ia (flen T) ic, .int .i64 e2, .int .i64 0]) ∧ OIn (fresh w.heap.size w') p T ka kc ia ic) ∧ Below w.heap.size w w' := by
  have hmf : ∀ (fn : Fn) (first cap : Array Value) (w : World), (Instr.makeFunc fn first cap).run Tryz.prog w = .ok (.func fn first cap) w := fun _ _ _ _ => rfl
  have CO := hide HO
  have hs' : decide ((16777216 : Int) < (s.size : Int)) = false := by simp; omega
  have ha' : decide ((a : Int) < 0) = false := by simp
  have ha2 : decide ((s.size : Int) < (a : Int)) = false := by simp; omega
  clear HO
  go_enter_defers Tryz.func14, Tryz.ntmps14
  go_wp2_with fail
  have hb0 : Below w.heap.size w ((((w.alloc (.cells zobj 25)).alloc (.cells #[.int .i64 0] 3)).alloc (.cells #[.int .i64 0] 29)).alloc (.cells #[.string s, .int .i64 a, .int .i64 65536] 50)) := ((((Below.refl w.heap.size w).alloc (Nat.le_refl _) _).alloc (by simp) _).alloc (by simp; omega) _).alloc (by simp; omega) _
  have hal : ∀ (u : World) (o : Obj), Below u.heap.size u (u.alloc o) := fun u o => (Below.refl _ _).alloc (Nat.le_refl _) _
  have hsz1 : (w.alloc (.cells zobj 25)).heap.size = w.heap.size + 1 := by simp
  have hsz2 : ((w.alloc (.cells zobj 25)).alloc (.cells #[.int .i64 0] 3)).heap.size = w.heap.size + 1 + 1 := by simp
  have hsz3 : (((w.alloc (.cells zobj 25)).alloc (.cells #[.int .i64 0] 3)).alloc (.cells #[.int .i64 0] 29)).heap.size = w.heap.size + 1 + 1 + 1 := by simp
  have k0 : Blk ((((w.alloc (.cells zobj 25)).alloc (.cells #[.int .i64 0] 3)).alloc (.cells #[.int .i64 0] 29)).alloc (.cells #[.string s, .int .i64 a, .int .i64 65536] 50)) w.heap.size zobj 25 := (((Blk.new w _ _).below (hal _ _)).below (hal _ _)).below (hal _ _)
  have k1 : Blk ((((w.alloc (.cells zobj 25)).alloc (.cells #[.int .i64 0] 3)).alloc (.cells #[.int .i64 0] 29)).alloc (.cells #[.string s, .int .i64 a, .int .i64 65536] 50)) (w.heap.size + 1) #[.int .i64 0] 3 := by
    have := Blk.new (w.alloc (.cells zobj 25)) #[.int .i64 0] 3
    rw [hsz1] at this
    exact (this.below (hal _ _)).below (hal _ _)
  have k2 : Blk ((((w.alloc (.cells zobj 25)).alloc (.cells #[.int .i64 0] 3)).alloc (.cells #[.int .i64 0] 29)).alloc (.cells #[.string s, .int .i64 a, .int .i64 65536] 50)) (w.heap.size + 1 + 1) #[.int .i64 0] 29 := by
    have := Blk.new ((w.alloc (.cells zobj 25)).alloc (.cells #[.int .i64 0] 3)) #[.int .i64 0] 29
    rw [hsz2] at this
    exact this.below (hal _ _)
  have k3 : RAt ((((w.alloc (.cells zobj 25)).alloc (.cells #[.int .i64 0] 3)).alloc (.cells #[.int .i64 0] 29)).alloc (.cells #[.string s, .int .i64 a, .int .i64 65536] 50)) (w.heap.size + 1 + 1 + 1) s a 65536 := by
    have := Blk.new (((w.alloc (.cells zobj 25)).alloc (.cells #[.int .i64 0] 3)).alloc (.cells #[.int .i64 0] 29)) #[.string s, .int .i64 a, .int .i64 65536] 50
    rw [hsz3] at this
    exact this
  have hz0 : ((((w.alloc (.cells zobj 25)).alloc (.cells #[.int .i64 0] 3)).alloc (.cells #[.int .i64 0] 29)).alloc (.cells #[.string s, .int .i64 a, .int .i64 65536] 50)).heap.size = w.heap.size + 1 + 1 + 1 + 1 := by simp
  have HB0 := hide hb0
  have HK0 := hide k0
  have HK1 := hide k1
  have HK2 := hide k2
  have HK3 := hide k3
  generalize ((((w.alloc (.cells zobj 25)).alloc (.cells #[.int .i64 0] 3)).alloc (.cells #[.int .i64 0] 29)).alloc (.cells #[.string s, .int .i64 a, .int .i64 65536] 50)) = w0 at HB0 HK0 HK1 HK2 HK3 hz0 ⊢
  clear hb0 hal hsz1 hsz2 hsz3 k0 k1 k2 k3
  refine (CO.out _ _ HK3.out HB0.out (by omega)).mono ?_
  rintro e w1 ⟨⟨ka, kc, ia, ic, rfl, hin⟩, h1, h2⟩
  have HIN := hide hin
  have HB1 := hide (h1.below HB0.out (by omega))
  have hk0 := HK0.out.but h1 (by omega)
  have HK0 := hide hk0
  have HK1 := hide (HK1.out.but h1 (by omega))
  have HK2 := hide (HK2.out.but h1 (by omega))
  have HK3 := hide h2
  obtain ⟨⟨r0, r1, r2, r3, r4, r5⟩, ⟨y0, y1, y2, y3, y4, y5⟩⟩ := hk0.six
  clear hk0 h1 h2 hin
  go_wp2_with fail
  clear r0 r1 r2 r3 r4 r5 y0 y1 y2 y3 y4 y5
  have HB2 : Hid (Below w.heap.size w ((((((w1.setCell ⟨w.heap.size, 0, none⟩ (.int .i64 p.kind)).setCell ⟨w.heap.size, 1, none⟩ (.bool p.flag)).setCell ⟨w.heap.size, 2, none⟩ (.int .i64 p.num)).setCell ⟨w.heap.size, 3, none⟩ (.string p.text)).setCell ⟨w.heap.size, 4, none⟩ (.slice ka p.keys.length kc)).setCell ⟨w.heap.size, 5, none⟩ (.slice ia (flen T) ic))) := hide (st6_below HB1.out (Nat.le_refl _) (.int .i64 p.kind) (.bool p.flag) (.int .i64 p.num) (.string p.text) (.slice ka p.keys.length kc) (.slice ia (flen T) ic))
  have HK0 : Hid (Blk ((((((w1.setCell ⟨w.heap.size, 0, none⟩ (.int .i64 p.kind)).setCell ⟨w.heap.size, 1, none⟩ (.bool p.flag)).setCell ⟨w.heap.size, 2, none⟩ (.int .i64 p.num)).setCell ⟨w.heap.size, 3, none⟩ (.string p.text)).setCell ⟨w.heap.size, 4, none⟩ (.slice ka p.keys.length kc)).setCell ⟨w.heap.size, 5, none⟩ (.slice ia (flen T) ic)) w.heap.size #[.int .i64 p.kind, .bool p.flag, .int .i64 p.num, .string p.text, .slice ka p.keys.length kc, .slice ia (flen T) ic] 25) := hide (st6_blk HK0.out _ _ _ _ _ _)
  have HK1 : Hid (Blk ((((((w1.setCell ⟨w.heap.size, 0, none⟩ (.int .i64 p.kind)).setCell ⟨w.heap.size, 1, none⟩ (.bool p.flag)).setCell ⟨w.heap.size, 2, none⟩ (.int .i64 p.num)).setCell ⟨w.heap.size, 3, none⟩ (.string p.text)).setCell ⟨w.heap.size, 4, none⟩ (.slice ka p.keys.length kc)).setCell ⟨w.heap.size, 5, none⟩ (.slice ia (flen T) ic)) (w.heap.size + 1) #[.int .i64 0] 3) := hide ((st6_block (w := w1) (b := w.heap.size) (k := w.heap.size + 1) (by omega) _ _ _ _ _ _).trans HK1.out)
  have HK2 : Hid (Blk ((((((w1.setCell ⟨w.heap.size, 0, none⟩ (.int .i64 p.kind)).setCell ⟨w.heap.size, 1, none⟩ (.bool p.flag)).setCell ⟨w.heap.size, 2, none⟩ (.int .i64 p.num)).setCell ⟨w.heap.size, 3, none⟩ (.string p.text)).setCell ⟨w.heap.size, 4, none⟩ (.slice ka p.keys.length kc)).setCell ⟨w.heap.size, 5, none⟩ (.slice ia (flen T) ic)) (w.heap.size + 1 + 1) #[.int .i64 0] 29) := hide ((st6_block (w := w1) (b := w.heap.size) (k := w.heap.size + 1 + 1) (by omega) _ _ _ _ _ _).trans HK2.out)
  have HK3 : Hid (RAt ((((((w1.setCell ⟨w.heap.size, 0, none⟩ (.int .i64 p.kind)).setCell ⟨w.heap.size, 1, none⟩ (.bool p.flag)).setCell ⟨w.heap.size, 2, none⟩ (.int .i64 p.num)).setCell ⟨w.heap.size, 3, none⟩ (.string p.text)).setCell ⟨w.heap.size, 4, none⟩ (.slice ka p.keys.length kc)).setCell ⟨w.heap.size, 5, none⟩ (.slice ia (flen T) ic)) (w.heap.size + 1 + 1 + 1) s e2 (lq)) := hide (st6_rat HK3.out (by omega) _ _ _ _ _ _)
  have HIN : Hid (OIn (fresh (w.heap.size + 1 + 1 + 1 + 1) ((((((w1.setCell ⟨w.heap.size, 0, none⟩ (.int .i64 p.kind)).setCell ⟨w.heap.size, 1, none⟩ (.bool p.flag)).setCell ⟨w.heap.size, 2, none⟩ (.int .i64 p.num)).setCell ⟨w.heap.size, 3, none⟩ (.string p.text)).setCell ⟨w.heap.size, 4, none⟩ (.slice ka p.keys.length kc)).setCell ⟨w.heap.size, 5, none⟩ (.slice ia (flen T) ic))) p T ka kc ia ic) := hide (HIN.out.sub (only_sub (Nat.le_of_eq (st6_size _ _ _ _ _ _ _ _).symm) fun k h1 _ => ⟨by omega, st6_block (w := w1) (b := w.heap.size) (k := k) (by omega) _ _ _ _ _ _⟩))
  generalize ((((((w1.setCell ⟨w.heap.size, 0, none⟩ (.int .i64 p.kind)).setCell ⟨w.heap.size, 1, none⟩ (.bool p.flag)).setCell ⟨w.heap.size, 2, none⟩ (.int .i64 p.num)).setCell ⟨w.heap.size, 3, none⟩ (.string p.text)).setCell ⟨w.heap.size, 4, none⟩ (.slice ka p.keys.length kc)).setCell ⟨w.heap.size, 5, none⟩ (.slice ia (flen T) ic)) = w2 at HB2 HK0 HK1 HK2 HK3 HIN ⊢
  obtain ⟨⟨q0, q1, q2, q3, q4, q5⟩, ⟨y0, y1, y2, y3, y4, y5⟩⟩ := HK0.out.six
  have n0 := HK1.out.cell 0
  have n1 := HK1.out.frozen 0
  have m0 := HK2.out.cell 0
  have m1 := HK2.out.frozen 0
  obtain ⟨⟨c0, c1, c2⟩, z0, z1, z2⟩ := HK3.out.three
  simp at n0 m0
  go_region
  have HB6 : Hid (Below w.heap.size w ((((((w2.setCell ⟨w.heap.size, 0, none⟩ (.int .i64 p.kind)).setCell ⟨w.heap.size, 1, none⟩ (.bool p.flag)).setCell ⟨w.heap.size, 2, none⟩ (.int .i64 p.num)).setCell ⟨w.heap.size, 3, none⟩ (.string p.text)).setCell ⟨w.heap.size, 4, none⟩ (.slice ka p.keys.length kc)).setCell ⟨w.heap.size, 5, none⟩ (.slice ia (flen T) ic))) := hide (st6_below HB2.out (b := w.heap.size) (Nat.le_refl _) (.int .i64 p.kind) (.bool p.flag) (.int .i64 p.num) (.string p.text) (.slice ka p.keys.length kc) (.slice ia (flen T) ic))
  have HK6 : Hid (Blk ((((((w2.setCell ⟨w.heap.size, 0, none⟩ (.int .i64 p.kind)).setCell ⟨w.heap.size, 1, none⟩ (.bool p.flag)).setCell ⟨w.heap.size, 2, none⟩ (.int .i64 p.num)).setCell ⟨w.heap.size, 3, none⟩ (.string p.text)).setCell ⟨w.heap.size, 4, none⟩ (.slice ka p.keys.length kc)).setCell ⟨w.heap.size, 5, none⟩ (.slice ia (flen T) ic)) w.heap.size #[.int .i64 p.kind, .bool p.flag, .int .i64 p.num, .string p.text, .slice ka p.keys.length kc, .slice ia (flen T) ic] 25) := hide (st6_blk HK0.out (.int .i64 p.kind) (.bool p.flag) (.int .i64 p.num) (.string p.text) (.slice ka p.keys.length kc) (.slice ia (flen T) ic))
  have HK7 : Hid (Blk ((((((w2.setCell ⟨w.heap.size, 0, none⟩ (.int .i64 p.kind)).setCell ⟨w.heap.size, 1, none⟩ (.bool p.flag)).setCell ⟨w.heap.size, 2, none⟩ (.int .i64 p.num)).setCell ⟨w.heap.size, 3, none⟩ (.string p.text)).setCell ⟨w.heap.size, 4, none⟩ (.slice ka p.keys.length kc)).setCell ⟨w.heap.size, 5, none⟩ (.slice ia (flen T) ic)) (w.heap.size + 1) #[.int .i64 0] 3) := hide ((st6_block (w := w2) (b := w.heap.size) (k := w.heap.size + 1) (by omega) _ _ _ _ _ _).trans HK1.out)
  have HK8 : Hid (Blk ((((((w2.setCell ⟨w.heap.size, 0, none⟩ (.int .i64 p.kind)).setCell ⟨w.heap.size, 1, none⟩ (.bool p.flag)).setCell ⟨w.heap.size, 2, none⟩ (.int .i64 p.num)).setCell ⟨w.heap.size, 3, none⟩ (.string p.text)).setCell ⟨w.heap.size, 4, none⟩ (.slice ka p.keys.length kc)).setCell ⟨w.heap.size, 5, none⟩ (.slice ia (flen T) ic)) (w.heap.size + 1 + 1) #[.int .i64 0] 29) := hide ((st6_block (w := w2) (b := w.heap.size) (k := w.heap.size + 1 + 1) (by omega) _ _ _ _ _ _).trans HK2.out)
  have HI6 : Hid (OIn (fresh (w.heap.size + 1 + 1 + 1 + 1) ((((((w2.setCell ⟨w.heap.size, 0, none⟩ (.int .i64 p.kind)).setCell ⟨w.heap.size, 1, none⟩ (.bool p.flag)).setCell ⟨w.heap.size, 2, none⟩ (.int .i64 p.num)).setCell ⟨w.heap.size, 3, none⟩ (.string p.text)).setCell ⟨w.heap.size, 4, none⟩ (.slice ka p.keys.length kc)).setCell ⟨w.heap.size, 5, none⟩ (.slice ia (flen T) ic))) p T ka kc ia ic) := hide (HIN.out.sub (only_sub (Nat.le_of_eq (st6_size _ _ _ _ _ _ _ _).symm) fun k h1 _ => ⟨by omega, st6_block (w := w2) (b := w.heap.size) (k := k) (by omega) _ _ _ _ _ _⟩))
  generalize ((((((w2.setCell ⟨w.heap.size, 0, none⟩ (.int .i64 p.kind)).setCell ⟨w.heap.size, 1, none⟩ (.bool p.flag)).setCell ⟨w.heap.size, 2, none⟩ (.int .i64 p.num)).setCell ⟨w.heap.size, 3, none⟩ (.string p.text)).setCell ⟨w.heap.size, 4, none⟩ (.slice ka p.keys.length kc)).setCell ⟨w.heap.size, 5, none⟩ (.slice ia (flen T) ic)) = wA at HB6 HK6 HK7 HK8 HI6 ⊢
  clear HB2 HK0 HK1 HK2 HK3 HIN HB1 q0 q1 q2 q3 q4 q5 y0 y1 y2 y3 y4 y5 n0 n1 m0 m1 c0 c1 c2 z0 z1 z2
  have FB : Hid (Below w.heap.size w ((wA.setCell ⟨w.heap.size + 1, 0, none⟩ (.int .i64 e2)).setCell ⟨w.heap.size + 1 + 1, 0, none⟩ (.int .i64 0))) := hide ((HB6.out.setCell (p := ⟨w.heap.size + 1, 0, none⟩) (by simp) (.int .i64 e2)).setCell (p := ⟨w.heap.size + 1 + 1, 0, none⟩) (by simp; omega) (.int .i64 0))
  have F0 := hide ((HK6.out.other (b' := w.heap.size + 1) (by omega) 0 (.int .i64 e2)).other (b' := w.heap.size + 1 + 1) (by omega) 0 (.int .i64 0))
  have F1 : Hid (Blk ((wA.setCell ⟨w.heap.size + 1, 0, none⟩ (.int .i64 e2)).setCell ⟨w.heap.size + 1 + 1, 0, none⟩ (.int .i64 0)) (w.heap.size + 1) #[.int .i64 e2] 3) := hide ((HK7.out.set 0 (.int .i64 e2)).other (b' := w.heap.size + 1 + 1) (by omega) 0 (.int .i64 0))
  have F2 : Hid (Blk ((wA.setCell ⟨w.heap.size + 1, 0, none⟩ (.int .i64 e2)).setCell ⟨w.heap.size + 1 + 1, 0, none⟩ (.int .i64 0)) (w.heap.size + 1 + 1) #[.int .i64 0] 29) := hide ((HK8.out.other (b' := w.heap.size + 1) (by omega) 0 (.int .i64 e2)).set 0 (.int .i64 0))
  have FI : Hid (OIn (fresh w.heap.size ((wA.setCell ⟨w.heap.size + 1, 0, none⟩ (.int .i64 e2)).setCell ⟨w.heap.size + 1 + 1, 0, none⟩ (.int .i64 0))) p T ka kc ia ic) := hide (HI6.out.sub (only_sub (by simp [World.setCell]) fun k h1 _ => ⟨by omega, by rw [Below.heap_setCell _ _ _ _ (by simp; omega), Below.heap_setCell _ _ _ _ (by simp; omega)]⟩))
  generalize (wA.setCell ⟨w.heap.size + 1, 0, none⟩ (.int .i64 e2)).setCell ⟨w.heap.size + 1 + 1, 0, none⟩ (.int .i64 0) = wB at FB F0 F1 F2 FI ⊢
  have FB : Hid (Below w.heap.size w wB.drew) := hide FB.out.drew
  have F0 : Hid (Blk wB.drew w.heap.size #[.int .i64 p.kind, .bool p.flag, .int .i64 p.num, .string p.text, .slice ka p.keys.length kc, .slice ia (flen T) ic] 25) := hide F0.out
  have F1 : Hid (Blk wB.drew (w.heap.size + 1) #[.int .i64 e2] 3) := hide F1.out
  have F2 : Hid (Blk wB.drew (w.heap.size + 1 + 1) #[.int .i64 0] 29) := hide F2.out
  have FI : Hid (OIn (fresh w.heap.size wB.drew) p T ka kc ia ic) := hide (FI.out.sub (only_sub (w := wB) (w' := wB.drew) (Nat.le_refl _) fun k h1 _ => ⟨h1, rfl⟩))
  generalize wB.drew = wf at FB F0 F1 F2 FI ⊢
  go_wp2_with fail
  refine leaves_cons (f := 23) (args := #[.pointer (some ⟨w.heap.size, 0, none⟩), .pointer (some ⟨w.heap.size + 1, 0, none⟩), .pointer (some ⟨w.heap.size + 1 + 1, 0, none⟩)]) (by simp) (by simp [go_sem]) ?_
  refine (catch_idle _ _ _ _).mono ?_
  rintro e u' w'' ⟨rfl, rfl, rfl⟩
  obtain ⟨⟨f0, f1, f2, f3, f4, f5⟩, _⟩ := F0.out.six
  have g0 : w''.cell? ⟨w.heap.size + 1, 0, none⟩ = some (.int .i64 e2) := F1.out.cell 0
  have g1 : w''.cell? ⟨w.heap.size + 1 + 1, 0, none⟩ = some (.int .i64 0) := F2.out.cell 0
  refine ⟨.tuple #[ov p ka kc ia (flen T) ic, .int .i64 e2, .int .i64 0], ?_, ⟨ka, kc, ia, ic, rfl, FI.out⟩, FB.out⟩
  simp [results, Tryz.results14, go_sem, f0, f1, f2, f3, f4, f5, g0, g1]
set_option maxRecDepth 8000 in
set_option maxHeartbeats 4000000 in
theorem parse_bad (s : ByteArray) (a : Nat) (w : World) (hs : s.size ≤ 16777216) (ha : a ≤ s.size)
    (HO : ∀ b w0, RAt w0 b s a 65536 → Below w.heap.size w w0 → w.heap.size ≤ b → Calls Tryz.prog 24 #[.pointer (some ⟨b, 0, none⟩), .int .i64 1] w0 fun e w' => e = thrown ∧ But b w0 w') :
    Calls Tryz.prog 14 #[.string s, .int .i64 a] w fun e w' => e = .returned (.tuple #[zov, .int .i64 0, .int .i64 50]) ∧ Below w.heap.size w w' := by
  have hmf : ∀ (fn : Fn) (first cap : Array Value) (w : World), (Instr.makeFunc fn first cap).run Tryz.prog w = .ok (.func fn first cap) w := fun _ _ _ _ => rfl
  have CO := hide HO
  have hs' : decide ((16777216 : Int) < (s.size : Int)) = false := by simp; omega
  have ha' : decide ((a : Int) < 0) = false := by simp
  have ha2 : decide ((s.size : Int) < (a : Int)) = false := by simp; omega
  clear HO
  go_enter_defers Tryz.func14, Tryz.ntmps14
  go_wp2_with fail
  have hb0 : Below w.heap.size w ((((w.alloc (.cells zobj 25)).alloc (.cells #[.int .i64 0] 3)).alloc (.cells #[.int .i64 0] 29)).alloc (.cells #[.string s, .int .i64 a, .int .i64 65536] 50)) := ((((Below.refl w.heap.size w).alloc (Nat.le_refl _) _).alloc (by simp) _).alloc (by simp; omega) _).alloc (by simp; omega) _
  have hal : ∀ (u : World) (o : Obj), Below u.heap.size u (u.alloc o) := fun u o => (Below.refl _ _).alloc (Nat.le_refl _) _
  have hsz1 : (w.alloc (.cells zobj 25)).heap.size = w.heap.size + 1 := by simp
  have hsz2 : ((w.alloc (.cells zobj 25)).alloc (.cells #[.int .i64 0] 3)).heap.size = w.heap.size + 1 + 1 := by simp
  have hsz3 : (((w.alloc (.cells zobj 25)).alloc (.cells #[.int .i64 0] 3)).alloc (.cells #[.int .i64 0] 29)).heap.size = w.heap.size + 1 + 1 + 1 := by simp
  have k0 : Blk ((((w.alloc (.cells zobj 25)).alloc (.cells #[.int .i64 0] 3)).alloc (.cells #[.int .i64 0] 29)).alloc (.cells #[.string s, .int .i64 a, .int .i64 65536] 50)) w.heap.size zobj 25 := (((Blk.new w _ _).below (hal _ _)).below (hal _ _)).below (hal _ _)
  have k1 : Blk ((((w.alloc (.cells zobj 25)).alloc (.cells #[.int .i64 0] 3)).alloc (.cells #[.int .i64 0] 29)).alloc (.cells #[.string s, .int .i64 a, .int .i64 65536] 50)) (w.heap.size + 1) #[.int .i64 0] 3 := by
    have := Blk.new (w.alloc (.cells zobj 25)) #[.int .i64 0] 3
    rw [hsz1] at this
    exact (this.below (hal _ _)).below (hal _ _)
  have k2 : Blk ((((w.alloc (.cells zobj 25)).alloc (.cells #[.int .i64 0] 3)).alloc (.cells #[.int .i64 0] 29)).alloc (.cells #[.string s, .int .i64 a, .int .i64 65536] 50)) (w.heap.size + 1 + 1) #[.int .i64 0] 29 := by
    have := Blk.new ((w.alloc (.cells zobj 25)).alloc (.cells #[.int .i64 0] 3)) #[.int .i64 0] 29
    rw [hsz2] at this
    exact this.below (hal _ _)
  have k3 : RAt ((((w.alloc (.cells zobj 25)).alloc (.cells #[.int .i64 0] 3)).alloc (.cells #[.int .i64 0] 29)).alloc (.cells #[.string s, .int .i64 a, .int .i64 65536] 50)) (w.heap.size + 1 + 1 + 1) s a 65536 := by
    have := Blk.new (((w.alloc (.cells zobj 25)).alloc (.cells #[.int .i64 0] 3)).alloc (.cells #[.int .i64 0] 29)) #[.string s, .int .i64 a, .int .i64 65536] 50
    rw [hsz3] at this
    exact this
  have hz0 : ((((w.alloc (.cells zobj 25)).alloc (.cells #[.int .i64 0] 3)).alloc (.cells #[.int .i64 0] 29)).alloc (.cells #[.string s, .int .i64 a, .int .i64 65536] 50)).heap.size = w.heap.size + 1 + 1 + 1 + 1 := by simp
  have HB0 := hide hb0
  have HK0 := hide k0
  have HK1 := hide k1
  have HK2 := hide k2
  have HK3 := hide k3
  generalize ((((w.alloc (.cells zobj 25)).alloc (.cells #[.int .i64 0] 3)).alloc (.cells #[.int .i64 0] 29)).alloc (.cells #[.string s, .int .i64 a, .int .i64 65536] 50)) = w0 at HB0 HK0 HK1 HK2 HK3 hz0 ⊢
  clear hb0 hal hsz1 hsz2 hsz3 k0 k1 k2 k3
  refine (CO.out _ _ HK3.out HB0.out (by omega)).mono ?_
  rintro e w1 ⟨rfl, h1⟩
  have HB1 := hide (h1.below HB0.out (by omega))
  have HK0 := hide (HK0.out.but h1 (by omega))
  have HK1 := hide (HK1.out.but h1 (by omega))
  have HK2 := hide (HK2.out.but h1 (by omega))
  clear h1 HB0 HK3
  refine leaves_cons (f := 23) (args := #[.pointer (some ⟨w.heap.size, 0, none⟩), .pointer (some ⟨w.heap.size + 1, 0, none⟩), .pointer (some ⟨w.heap.size + 1 + 1, 0, none⟩)]) (by simp) (by simp [go_sem]) ?_
  refine (catch_thrown w.heap.size w1 _ _ _ _ _ _ _ _ _ HK0.out HK1.out HK2.out).mono ?_
  rintro e u' w'' ⟨rfl, rfl, rfl⟩
  have FB := hide (((st6_below HB1.out (b := w.heap.size) (Nat.le_refl _) (.int .i64 0) (.bool false) (.int .i64 0) (.string ⟨#[]⟩) (.slice none 0 0) (.slice none 0 0)).setCell (p := ⟨w.heap.size + 1, 0, none⟩) (by simp) (.int .i64 0)).setCell (p := ⟨w.heap.size + 1 + 1, 0, none⟩) (by simp; omega) (.int .i64 50))
  have F0 := hide (((st6_blk HK0.out (.int .i64 0) (.bool false) (.int .i64 0) (.string ⟨#[]⟩) (.slice none 0 0) (.slice none 0 0)).other (b' := w.heap.size + 1) (by omega) 0 (.int .i64 0)).other (b' := w.heap.size + 1 + 1) (by omega) 0 (.int .i64 50))
  have K1 := hide (Eq.trans (st6_block (w := w1) (b := w.heap.size) (k := w.heap.size + 1) (by omega) (.int .i64 0) (.bool false) (.int .i64 0) (.string ⟨#[]⟩) (.slice none 0 0) (.slice none 0 0)) HK1.out)
  have K2 := hide (Eq.trans (st6_block (w := w1) (b := w.heap.size) (k := w.heap.size + 1 + 1) (by omega) (.int .i64 0) (.bool false) (.int .i64 0) (.string ⟨#[]⟩) (.slice none 0 0) (.slice none 0 0)) HK2.out)
  have F1 := hide ((Blk.set K1.out 0 (.int .i64 0)).other (b' := w.heap.size + 1 + 1) (by omega) 0 (.int .i64 50))
  have F2 := hide ((Blk.other K2.out (b' := w.heap.size + 1) (by omega) 0 (.int .i64 0)).set 0 (.int .i64 50))
  generalize ((st6 w1 w.heap.size (.int .i64 0) (.bool false) (.int .i64 0) (.string ⟨#[]⟩) (.slice none 0 0) (.slice none 0 0)).setCell ⟨w.heap.size + 1, 0, none⟩ (.int .i64 0)).setCell ⟨w.heap.size + 1 + 1, 0, none⟩ (.int .i64 50) = wf at FB F0 F1 F2 ⊢
  obtain ⟨⟨f0, f1, f2, f3, f4, f5⟩, _⟩ := F0.out.six
  have g0 : wf.cell? ⟨w.heap.size + 1, 0, none⟩ = some (.int .i64 0) := F1.out.cell 0
  have g1 : wf.cell? ⟨w.heap.size + 1 + 1, 0, none⟩ = some (.int .i64 50) := F2.out.cell 0
  show Leaves _ _ _ _ [] (settle (.panicking [{ v := .iface 29 (.int .i64 50), recovered := true }])) wf
  rw [show settle (.panicking [{ v := .iface 29 (.int .i64 50), recovered := true }]) = .returning from rfl]
  refine ⟨.tuple #[zov, .int .i64 0, .int .i64 50], ?_, rfl, FB.out⟩
  simp [results, Tryz.results14, go_sem, f0, f1, f2, f3, f4, f5, g0, g1]
end Go.Proofs.YtalmcdbdibpgkaaGreatDoor
/-
  What the landed Parse answers: every text, every place.
-/
namespace Go.Proofs.YtalmcdbdibpgkaaGreatDoor
open Go.RowKit Go.Deep
set_option linter.unusedVariables false

/- the fuel that is enough -/
abbrev fuelOf (s : ByteArray) : Nat := 3 * s.size + 2
def PaR (w : World) (R : Option (Pay × BT Pay × Nat)) (e : Ending) (w' : World) : Prop := match R with
  | some (p, T, q) => if 0 ≤ goodV p T 0 0 then (∃ ka kc ia ic, e = .returned (.tuple #[ov p ka kc ia (flen T) ic, .int .i64 q, .int .i64 0]) ∧ OIn (fresh w.heap.size w') p T ka kc ia ic) ∧ Below w.heap.size w w' else e = .returned (.tuple #[zov, .int .i64 0, .int .i64 50]) ∧ Below w.heap.size w w'
  | none => e = .returned (.tuple #[zov, .int .i64 0, .int .i64 50]) ∧ Below w.heap.size w w'
theorem parse_rc (s : ByteArray) (a : Nat) (w : World) (hgl : Glo5 w) (hs : s.size ≤ 16777216) (ha : a ≤ s.size) :
    Calls Tryz.prog 14 #[.string s, .int .i64 a] w (PaR w ((rec5 s.data.toList (fuelOf s)).ob a 0)) := by
  have HC := ob_all w hgl (fuelOf s + 1) (fuelOf s) (by omega)
  have HC : ∀ b w0, RAt w0 b s a 65536 → Below w.heap.size w w0 → w.heap.size ≤ b → Calls Tryz.prog 24 #[.pointer (some ⟨b, 0, none⟩), .int .i64 1] w0 (ObR w b w0 s 0 0 ((rec5 s.data.toList (fuelOf s)).ob a 0)) :=
    fun b w0 h1 h2 h3 => by
      have := HC b s a 0 0 w0 ⟨by simpa using h1, h2, h3, ha⟩ hs (by omega) (by omega) (by omega) (by unfold fuelOf; omega)
      simpa using this
  generalize (rec5 s.data.toList (fuelOf s)).ob a 0 = R at HC ⊢
  rcases R with _ | ⟨p, T, q⟩
  · refine (parse_bad s a w hs ha fun b w0 h1 h2 h3 => (HC b w0 h1 h2 h3).mono fun e w' h => h).mono fun e w' h => h
  · by_cases hg : 0 ≤ goodV p T 0 0
    · refine (parse_fine s a w hs ha p T q (65536 - goodV p T 0 0) fun b w0 h1 h2 h3 => (HC b w0 h1 h2 h3).mono fun e w' h => ?_).mono fun e w' h => ?_
      · unfold ObR at h
        dsimp only at h
        rw [if_pos (by simpa using hg)] at h
        exact ⟨h.1, h.2.1, by simpa using h.2.2.rat⟩
      · unfold PaR
        dsimp only
        rw [if_pos hg]
        exact h
    · refine (parse_bad s a w hs ha fun b w0 h1 h2 h3 => (HC b w0 h1 h2 h3).mono fun e w' h => ?_).mono fun e w' h => ?_
      · unfold ObR at h
        dsimp only at h
        rw [if_neg (by simpa using hg)] at h
        exact h
      · unfold PaR
        dsimp only
        rw [if_neg hg]
        exact h
set_option maxRecDepth 8000 in
set_option maxHeartbeats 4000000 in
theorem parse_long (s : ByteArray) (i : Int) (w : World) (hs : ¬ s.size ≤ 16777216) :
    Calls Tryz.prog 14 #[.string s, .int .i64 i] w fun e w' => e = .returned (.tuple #[zov, .int .i64 0, .int .i64 2]) ∧ Below w.heap.size w w' := by
  have hs' : decide ((16777216 : Int) < (s.size : Int)) = true := by simp; omega
  go_enter_defers Tryz.func14, Tryz.ntmps14
  go_wp2_with fail
  refine ⟨.tuple #[zov, .int .i64 0, .int .i64 2], ?_, rfl, (((Below.refl w.heap.size w).alloc (Nat.le_refl _) _).alloc (by simp) _).alloc (by simp; omega) _⟩
  simp [results, Tryz.results14, go_sem]
set_option maxRecDepth 8000 in
set_option maxHeartbeats 4000000 in
theorem parse_arg (s : ByteArray) (i : Int) (w : World) (hs : s.size ≤ 16777216) (ha : i < 0 ∨ (s.size : Int) < i) :
    Calls Tryz.prog 14 #[.string s, .int .i64 i] w fun e w' => e = .returned (.tuple #[zov, .int .i64 0, .int .i64 1]) ∧ Below w.heap.size w w' := by
  have hs' : decide ((16777216 : Int) < (s.size : Int)) = false := by simp; omega
  rcases ha with ha | ha
  · have ha' : decide (i < 0) = true := by simp; omega
    go_enter_defers Tryz.func14, Tryz.ntmps14
    go_wp2_with fail
    refine ⟨.tuple #[zov, .int .i64 0, .int .i64 1], ?_, rfl, (((Below.refl w.heap.size w).alloc (Nat.le_refl _) _).alloc (by simp) _).alloc (by simp; omega) _⟩
    simp [results, Tryz.results14, go_sem]
  · have ha' : decide (i < 0) = false := by simp; omega
    have ha2 : decide ((s.size : Int) < i) = true := by simp; omega
    go_enter_defers Tryz.func14, Tryz.ntmps14
    go_wp2_with fail
    refine ⟨.tuple #[zov, .int .i64 0, .int .i64 1], ?_, rfl, (((Below.refl w.heap.size w).alloc (Nat.le_refl _) _).alloc (by simp) _).alloc (by simp; omega) _⟩
    simp [results, Tryz.results14, go_sem]
end Go.Proofs.YtalmcdbdibpgkaaGreatDoor
