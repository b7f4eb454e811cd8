/-
  Joined: O5Qrd, O5Qre.
-/
import Derived.Test.YtalmcdbdibpgkaaGreatDoorBT
/-
  What the reference's reader reads, in plain words, by fuel; and the reference's atom, whatever stands there.
-/
namespace Go.Proofs.YtalmcdbdibpgkaaGreatDoor
open Go.RowKit Go.Deep
set_option linter.unusedVariables false

def refQ (l : List UInt8) (E : Nat) : Option Nat :=
  if E < blanksV l E ∧ wordV l (blanksV l E) < blanksV l (wordV l (blanksV l E)) ∧ (l.drop (blanksV l E)).take (wordV l (blanksV l E) - blanksV l E) = [48] ∧ (l.drop (blanksV l (wordV l (blanksV l E)))).take (wordV l (blanksV l (wordV l (blanksV l E))) - blanksV l (wordV l (blanksV l E))) = [82] then some (wordV l (blanksV l (wordV l (blanksV l E)))) else none
def atP (l wl : List UInt8) (E : Nat) : Option (Pay × Nat) :=
  if wl = [110, 117, 108, 108] then some (zp 0 false 0, E) else if wl = [116, 114, 117, 101] then some (zp 1 true 0, E) else if wl = [102, 97, 108, 115, 101] then some (zp 1 false 0, E)
  else if (intW wl).2 = true then (match refQ l E with
      | some e2 => if 1 ≤ (intW wl).1 ∧ (intW wl).1 ≤ 4096 then some (zp 8 false (intW wl).1, e2) else none
      | none => some (zp 2 false (intW wl).1, E))
    else if D2.parB wl = true ∧ (D2.parV wl).tmod 65536 ≠ 0 then some (zp 3 false (D2.parV wl), E) else none
def atV (l : List UInt8) (a : Nat) : Option (Pay × Nat) := atP l ((l.drop a).take (wordV l a - a)) (wordV l a)
def obQ (l : List UInt8) (r : Rd) (a nest : Nat) : Option (Pay × BT Pay × Nat) :=
  if 32 < nest ∨ l.length ≤ a then none
  else if Lib.hasPrefix (l.drop a) [60, 60] = true then (r.di (a + 2) (nest + 1)).map fun q => (kp q.1, q.2.1, q.2.2)
  else if Lib.hasPrefix (l.drop a) [91] = true then (r.li (a + 1) (nest + 1)).map fun q => (arrP, q.1, q.2)
  else if Lib.hasPrefix (l.drop a) [60] = true then (digV (l.drop (a + 1)) (a + 1)).map fun q => (tp 5 q.1, .nil, q.2)
  else if Lib.hasPrefix (l.drop a) [40] = true then (quoV (l.drop (a + 1)) (a + 1)).map fun q => (tp 5 q.1, .nil, q.2)
  else if Lib.hasPrefix (l.drop a) [47] = true then (match nmV (l.drop (a + 1)) (a + 1) with
    | none => none
    | some (t, q) => if nameB t = true then some (tp 4 t, .nil, q) else none)
  else (atV l a).map fun q => (q.1, .nil, q.2)
def diQ (l : List UInt8) (r : Rd) (k nest : Nat) : Option (List ByteArray × BT Pay × Nat) :=
  if Lib.hasPrefix (l.drop (blanksV l k)) [62, 62] = true then some ([], .nil, blanksV l k + 2)
  else if Lib.hasPrefix (l.drop (blanksV l k)) [47] = true then (match nmV (l.drop (blanksV l k + 1)) (blanksV l k + 1) with
    | none => none
    | some (t, j) => if nameB t = true then (match r.ob (blanksV l j) nest with
      | none => none
      | some (p, T, q) => match r.di q nest with
        | none => none
        | some (ks, N, e) => some (⟨t.toArray⟩ :: ks, .node 0 0 p T N, e)) else none)
  else none
def recQ (l : List UInt8) : Nat → Rd
  | 0 => ⟨fun _ _ => none, fun _ _ => none, fun _ _ => none⟩
  | f + 1 => ⟨obQ l (recQ l f), liS l (recQ l f), diQ l (recQ l f)⟩

def JR (w : World) (R : Option (Pay × Nat)) (e : Ending) (w' : World) : Prop := match R with
  | some (p, q) => e = .returned (.tuple #[ov p none 0 none 0 0, .int .i64 q, .bool true]) ∧ Below w.heap.size w w'
  | none => (∃ p q, e = .returned (.tuple #[ov p none 0 none 0 0, .int .i64 (q : Nat), .bool false])) ∧ Below w.heap.size w w'
theorem atom_q (s : ByteArray) (a : Nat) (w : World) (hs : s.size ≤ 16777216) (ha : a ≤ s.size) :
    Calls Tryz.prog 55 #[.string s, .int .i64 a] w (JR w (atV s.data.toList a)) := by
  unfold atV
  obtain ⟨E, hE⟩ : ∃ E, wordV s.data.toList a = E := ⟨_, rfl⟩
  obtain ⟨W, hW⟩ : ∃ W, s.extract a E = W := ⟨_, rfl⟩
  have hl : ∀ (a E : Nat) (W : ByteArray), s.extract a E = W → (s.data.toList.drop a).take (E - a) = W.data.toList := fun a E W h => by rw [← h, Lib.extract_data]
  rw [hE, hl a E W hW]
  have NT : ∀ (W : ByteArray) (L : List UInt8), W.data.toList = L → (W.toList == L) = true := fun W L e => by rw [ByteArray.toList_eq, e]; exact beq_self_eq_true L
  have NF : ∀ (W : ByteArray) (L : List UInt8), W.data.toList ≠ L → (W.toList == L) = false := fun W L e => by rw [ByteArray.toList_eq, beq_eq_false_iff_ne]; exact e
  unfold atP
  by_cases n0 : W.data.toList = [110, 117, 108, 108]
  · rw [if_pos n0]
    exact atom_null s a w hs ha E hE W hW (NT _ _ n0)
  rw [if_neg n0]
  by_cases n1 : W.data.toList = [116, 114, 117, 101]
  · rw [if_pos n1]
    exact atom_true s a w hs ha E hE W hW (NF _ _ n0) (NT _ _ n1)
  rw [if_neg n1]
  by_cases n2 : W.data.toList = [102, 97, 108, 115, 101]
  · rw [if_pos n2]
    exact atom_false s a w hs ha E hE W hW (NF _ _ n0) (NF _ _ n1) (NT _ _ n2)
  rw [if_neg n2]
  have bad : ∀ {p : Pay} {q : Nat}, Calls Tryz.prog 55 #[.string s, .int .i64 a] w (fun e w' => e = .returned (.tuple #[ov p none 0 none 0 0, .int .i64 q, .bool false]) ∧ Below w.heap.size w w') → Calls Tryz.prog 55 #[.string s, .int .i64 a] w (JR w none) :=
    fun h => h.mono fun e w' h => ⟨⟨_, _, h.1⟩, h.2⟩
  by_cases hi : (intW W.data.toList).2 = true
  · rw [if_pos hi]
    obtain ⟨x, hx⟩ : ∃ x, (intW W.data.toList).1 = x := ⟨_, rfl⟩
    have hxx : intW W.data.toList = (x, true) := by rw [← hx, ← hi]
    rw [hx]
    obtain ⟨A, hA⟩ : ∃ A, blanksV s.data.toList E = A := ⟨_, rfl⟩
    obtain ⟨B, hB⟩ : ∃ B, wordV s.data.toList A = B := ⟨_, rfl⟩
    obtain ⟨C, hC⟩ : ∃ C, blanksV s.data.toList B = C := ⟨_, rfl⟩
    obtain ⟨D, hD⟩ : ∃ D, wordV s.data.toList C = D := ⟨_, rfl⟩
    unfold refQ
    rw [hA, hB, hC, hD, hl A B _ rfl, hl C D _ rfl]
    by_cases e1 : E < A
    · by_cases e2 : B < C
      · by_cases e3 : (s.extract A B).data.toList = [48]
        · by_cases e4 : (s.extract C D).data.toList = [82]
          · rw [if_pos ⟨e1, e2, e3, e4⟩]
            dsimp only
            by_cases x1 : 1 ≤ x
            · by_cases x2 : x ≤ 4096
              · rw [if_pos ⟨x1, x2⟩]
                exact atom_ref s a w hs ha E hE W hW (NF _ _ n0) (NF _ _ n1) (NF _ _ n2) x hxx A B C D hA hB hC hD e1 e2 _ rfl (NT _ _ e3) _ rfl (NT _ _ e4) x1 x2
              · rw [if_neg (fun h => x2 h.2)]
                exact bad (atom_high s a w hs ha E hE W hW (NF _ _ n0) (NF _ _ n1) (NF _ _ n2) x hxx A B C D hA hB hC hD e1 e2 _ rfl (NT _ _ e3) _ rfl (NT _ _ e4) x1 x2)
            · rw [if_neg (fun h => x1 h.1)]
              exact bad (atom_low s a w hs ha E hE W hW (NF _ _ n0) (NF _ _ n1) (NF _ _ n2) x hxx A B C D hA hB hC hD e1 e2 _ rfl (NT _ _ e3) _ rfl (NT _ _ e4) x1)
          · rw [if_neg (fun h => e4 h.2.2.2)]
            exact atom_int4 s a w hs ha E hE W hW (NF _ _ n0) (NF _ _ n1) (NF _ _ n2) x hxx A B C D hA hB hC hD e1 e2 _ rfl (NT _ _ e3) _ rfl (NF _ _ e4)
        · rw [if_neg (fun h => e3 h.2.2.1)]
          exact atom_int3 s a w hs ha E hE W hW (NF _ _ n0) (NF _ _ n1) (NF _ _ n2) x hxx A B C D hA hB hC hD e1 e2 _ rfl (NF _ _ e3)
      · rw [if_neg (fun h => e2 h.2.1)]
        exact atom_int2 s a w hs ha E hE W hW (NF _ _ n0) (NF _ _ n1) (NF _ _ n2) x hxx A B C D hA hB hC hD e1 e2
    · rw [if_neg (fun h => e1 h.1)]
      exact atom_int1 s a w hs ha E hE W hW (NF _ _ n0) (NF _ _ n1) (NF _ _ n2) x hxx A B C D hA hB hC hD e1
  · rw [if_neg hi]
    have hi : (intW W.data.toList).2 = false := by simpa using hi
    by_cases hp : D2.parB W.data.toList = true
    · by_cases hm : (D2.parV W.data.toList).tmod 65536 = 0
      · rw [if_neg (fun h => h.2 hm)]
        exact bad (atom_real0 s a w hs ha E hE W hW (NF _ _ n0) (NF _ _ n1) (NF _ _ n2) _ hi rfl hp (by simp [hm]))
      · rw [if_pos ⟨hp, hm⟩]
        exact atom_real s a w hs ha E hE W hW (NF _ _ n0) (NF _ _ n1) (NF _ _ n2) _ hi rfl hp (by simpa using hm)
    · rw [if_neg (fun h => hp h.1)]
      exact bad (atom_bad s a w hs ha E hE W hW (NF _ _ n0) (NF _ _ n1) (NF _ _ n2) _ hi rfl (by simpa using hp))
theorem zp_okq (k : Int) (f : Bool) (n : Int) (hk : 0 ≤ k ∧ k ≤ 100) (hn : -1099511627776 ≤ n ∧ n ≤ 1099511627776) : (zp k f n).ok := ⟨by simp only; omega, by simp only; omega, by show (0 : Nat) ≤ _; omega, by simp⟩
theorem intW_in (l : List UInt8) (h : (intW l).2 = true) : -1099511627776 ≤ (intW l).1 ∧ (intW l).1 ≤ 1099511627776 := by
  have key : ∀ ng d, (intD ng d).2 = true → -1099511627776 ≤ (intD ng d).1 ∧ (intD ng d).1 ≤ 1099511627776 := fun ng d h => by
    unfold intD at *
    split
    · simp
    · rename_i h1
      rw [if_neg h1] at h
      split
      · rename_i h2
        rw [if_pos h2] at h
        simp only [inB, decide_eq_true_eq] at h
        exact h
      · simp
  unfold intW at *
  split
  · rename_i h1
    rw [if_pos h1] at h
    exact key _ _ h
  · rename_i h1
    rw [if_neg h1] at h
    exact key _ _ h
theorem parV_in (l : List UInt8) (h : D2.parB l = true) : -1099511627776 ≤ D2.parV l ∧ D2.parV l ≤ 1099511627776 := by
  unfold D2.parV
  rw [if_pos h]
  unfold D2.parB at h
  simp only [Bool.and_eq_true, decide_eq_true_eq] at h
  have := D2.nearP_in l h.1
  simpa [inB] using this
theorem at_leaf (l : List UInt8) (a : Nat) (p : Pay) (q : Nat) (h : atV l a = some (p, q)) : p.ok ∧ p.keys = [] ∧ cont p = false := by
  unfold atV atP at h
  split at h
  · simp only [Option.some.injEq, Prod.mk.injEq] at h; rw [← h.1]; exact ⟨zp_okq _ _ _ (by omega) (by omega), rfl, rfl⟩
  split at h
  · simp only [Option.some.injEq, Prod.mk.injEq] at h; rw [← h.1]; exact ⟨zp_okq _ _ _ (by omega) (by omega), rfl, rfl⟩
  split at h
  · simp only [Option.some.injEq, Prod.mk.injEq] at h; rw [← h.1]; exact ⟨zp_okq _ _ _ (by omega) (by omega), rfl, rfl⟩
  split at h
  · rename_i hi
    have hb := intW_in _ hi
    cases hr : refQ l (wordV l a) with
    | none =>
      rw [hr] at h
      simp only [Option.some.injEq, Prod.mk.injEq] at h; rw [← h.1]; exact ⟨zp_okq _ _ _ (by omega) hb, rfl, rfl⟩
    | some d =>
      rw [hr] at h
      simp only at h
      split at h
      · simp only [Option.some.injEq, Prod.mk.injEq] at h; rw [← h.1]; exact ⟨zp_okq _ _ _ (by omega) hb, rfl, rfl⟩
      · cases h
  · split at h
    · rename_i hp
      simp only [Option.some.injEq, Prod.mk.injEq] at h; rw [← h.1]; exact ⟨zp_okq _ _ _ (by omega) (parV_in _ hp.1), rfl, rfl⟩
    · cases h
end Go.Proofs.YtalmcdbdibpgkaaGreatDoor
/-
  What the reference's read answers, over what it calls.
-/
namespace Go.Proofs.YtalmcdbdibpgkaaGreatDoor
open Go.RowKit Go.Deep
set_option linter.unusedVariables false

def ReR (w : World) (R : Option (Pay × BT Pay × Nat)) (e : Ending) (w' : World) : Prop := match R with
  | some (p, T, q) => (∃ ka kc ia ic, e = .returned (.tuple #[ov p ka kc ia (flen T) ic, .int .i64 q, .bool true]) ∧ OIn (fresh w.heap.size w') p T ka kc ia ic) ∧ Below w.heap.size w w'
  | none => (∃ p ka kc ia n ic q, e = .returned (.tuple #[ov p ka kc ia n ic, .int .i64 (q : Nat), .bool false])) ∧ Below w.heap.size w w'
theorem ReR.of_at {w : World} {l : List UInt8} {a : Nat} {e : Ending} {w' : World} (h : JR w (atV l a) e w') : ReR w ((atV l a).map fun q => (q.1, .nil, q.2)) e w' := by
  cases hR : atV l a with
  | none =>
    rw [hR] at h
    obtain ⟨⟨p, q, he⟩, hb⟩ := h
    exact ⟨⟨p, none, 0, none, 0, 0, q, he⟩, hb⟩
  | some r =>
    obtain ⟨p, q⟩ := r
    rw [hR] at h
    obtain ⟨h1, h2, h3⟩ := at_leaf l a p q hR
    exact ⟨⟨none, 0, none, 0, h.1, oin_leaf _ _ h1 h2⟩, h.2⟩
theorem read_fin {Q : Ending → World → Prop} {wf : World} {B : Nat} {p : Pay} {ka : Option Addr} {kc : Nat} {ia : Option Addr} {n ic : Nat} {q : Nat} {ok : Bool} (hk : Blk wf B (obox p ka kc ia n ic) 25) (hbel : Q (.returned (.tuple #[ov p ka kc ia n ic, .int .i64 q, .bool ok])) wf) (a : Act) (h4 : a.tmps[6]?.getD undef = .pointer (some ⟨B, 0, none⟩)) (h5 : a.tmps[7]?.getD undef = .int .i64 q) (h6 : a.tmps[8]?.getD undef = .bool ok) (hd : a.defers = []) :
    bodyPost Tryz.prog Tryz.f25 Q Exit.ret a wf := by
  obtain ⟨⟨f0, f1, f2, f3, f4, f5⟩, _⟩ := hk.six
  refine bodyPost_ret (v := .tuple #[ov p ka kc ia n ic, .int .i64 q, .bool ok]) ?_ hd hbel
  simp [results, Tryz.results25, go_sem, f0, f1, f2, f3, f4, f5, h4, h5, h6]
set_option maxRecDepth 8000 in
set_option maxHeartbeats 1000000 in
theorem re_none1 (s : ByteArray) (a nest : Nat) (w : World) (hs : s.size ≤ 16777216) (ha : a ≤ s.size) (hn : nest ≤ 100)
    (h1 : s.size ≤ a) :
    Calls Tryz.prog 25 #[.string s, .int .i64 a, .int .i64 nest] w (ReR w none) := by
  have HK : Hid (∀ cs, Blk (w.alloc (.cells cs 25)) w.heap.size cs 25) := hide (fun cs => Blk.new _ _ _)
  have HB : Hid (∀ o, Below w.heap.size w (w.alloc o)) := hide (fun o => (Below.refl _ _).alloc (Nat.le_refl _) _)
  have HZ : Hid (∀ o, (w.alloc o).heap.size = w.heap.size + 1) := hide (fun o => by simp)
  have hs' : (s.size : Int) ≤ 16777216 := by omega
  have ha0 : (0 : Int) ≤ (a : Int) := by omega
  have hn' : (nest : Int) ≤ 100 := by omega
  have hn0 : (0 : Int) ≤ (nest : Int) := by omega
  have d0 : decide ((s.size : Int) ≤ (a : Int)) = true := by simp; omega
  go_enter Tryz.func25, Tryz.ntmps25
  go_wp2_with fail
  exact read_fin (Q := ReR w none) (p := ⟨0, false, 0, ⟨#[]⟩, []⟩) (ka := none) (kc := 0) (ia := none) (n := 0) (ic := 0) (q := 0) (ok := false) (HK.out _) ⟨⟨⟨0, false, 0, ⟨#[]⟩, []⟩, none, 0, none, 0, 0, 0, rfl⟩, HB.out _⟩ _ rfl rfl rfl rfl
set_option maxRecDepth 8000 in
set_option maxHeartbeats 1000000 in
theorem re_none2 (s : ByteArray) (a nest : Nat) (w : World) (hs : s.size ≤ 16777216) (ha : a ≤ s.size) (hn : nest ≤ 100)
    (h1 : a < s.size) (h2 : 32 < nest) :
    Calls Tryz.prog 25 #[.string s, .int .i64 a, .int .i64 nest] w (ReR w none) := by
  have HK : Hid (∀ cs, Blk (w.alloc (.cells cs 25)) w.heap.size cs 25) := hide (fun cs => Blk.new _ _ _)
  have HB : Hid (∀ o, Below w.heap.size w (w.alloc o)) := hide (fun o => (Below.refl _ _).alloc (Nat.le_refl _) _)
  have HZ : Hid (∀ o, (w.alloc o).heap.size = w.heap.size + 1) := hide (fun o => by simp)
  have hs' : (s.size : Int) ≤ 16777216 := by omega
  have ha0 : (0 : Int) ≤ (a : Int) := by omega
  have hn' : (nest : Int) ≤ 100 := by omega
  have hn0 : (0 : Int) ≤ (nest : Int) := by omega
  have d0 : decide ((s.size : Int) ≤ (a : Int)) = false := by simp; omega
  have dn : decide ((32 : Int) < (nest : Int)) = true := by simp; omega
  go_enter Tryz.func25, Tryz.ntmps25
  go_wp2_with fail
  exact read_fin (Q := ReR w none) (p := ⟨0, false, 0, ⟨#[]⟩, []⟩) (ka := none) (kc := 0) (ia := none) (n := 0) (ic := 0) (q := 0) (ok := false) (HK.out _) ⟨⟨⟨0, false, 0, ⟨#[]⟩, []⟩, none, 0, none, 0, 0, 0, rfl⟩, HB.out _⟩ _ rfl rfl rfl rfl
set_option maxRecDepth 8000 in
set_option maxHeartbeats 1000000 in
theorem re_name (s : ByteArray) (a nest : Nat) (w : World) (hs : s.size ≤ 16777216) (ha : a ≤ s.size) (hn : nest ≤ 100)
    (h1 : a < s.size) (h2 : nest ≤ 32) (c47 :  s[a].toNat = 47) (t : ByteArray) (q : Nat) (ok : Bool) (HC : ∀ x, Calls Tryz.prog 50 #[.string s, .int .i64 ((a : Int) + 1)] x fun e x' => e = .returned (.tuple #[.string t, .int .i64 q, .bool ok]) ∧ Below x.heap.size x x') :
    Calls Tryz.prog 25 #[.string s, .int .i64 a, .int .i64 nest] w (fun e w' => e = .returned (.tuple #[ov ⟨4, false, 0, t, []⟩ none 0 none 0 0, .int .i64 q, .bool ok]) ∧ Below w.heap.size w w') := by
  have HK : Hid (∀ cs, Blk (w.alloc (.cells cs 25)) w.heap.size cs 25) := hide (fun cs => Blk.new _ _ _)
  have HB : Hid (∀ o, Below w.heap.size w (w.alloc o)) := hide (fun o => (Below.refl _ _).alloc (Nat.le_refl _) _)
  have HZ : Hid (∀ o, (w.alloc o).heap.size = w.heap.size + 1) := hide (fun o => by simp)
  have hs' : (s.size : Int) ≤ 16777216 := by omega
  have ha0 : (0 : Int) ≤ (a : Int) := by omega
  have hn' : (nest : Int) ≤ 100 := by omega
  have hn0 : (0 : Int) ≤ (nest : Int) := by omega
  have d0 : decide ((s.size : Int) ≤ (a : Int)) = false := by simp; omega
  have dn : decide ((32 : Int) < (nest : Int)) = false := by simp; omega
  have hlt : (a : Int) < (s.size : Int) := by omega
  have e47 : ((s[a].toNat : Int) == 47) = true := by rw [beq_iff_eq]; omega
  have CC := hide HC
  clear HC
  go_enter Tryz.func25, Tryz.ntmps25
  go_wp2_with (go_at_call 50; refine (CC.out _).mono ?_; rintro e w2 ⟨rfl, hb2⟩; obtain ⟨⟨r0, r1, r2, r3, r4, r5⟩, ⟨y0, y1, y2, y3, y4, y5⟩⟩ := ((HK.out zobj).below hb2).six; have HB3 := hide (below_t5 (HB.out _) hb2); have HK3 := hide ((HK.out zobj).below hb2); clear hb2)
  exact read_fin (p := ⟨4, false, 0, t, []⟩) (ka := none) (kc := 0) (ia := none) (n := 0) (ic := 0) (st6_blk HK3.out (.int .i64 4) (.bool false) (.int .i64 0) (.string t) (.slice none 0 0) (.slice none 0 0)) ⟨rfl, st6_below HB3.out (Nat.le_refl _) _ _ _ _ _ _⟩ _ rfl rfl rfl rfl
set_option maxRecDepth 8000 in
set_option maxHeartbeats 1000000 in
theorem re_quo (s : ByteArray) (a nest : Nat) (w : World) (hs : s.size ≤ 16777216) (ha : a ≤ s.size) (hn : nest ≤ 100)
    (h1 : a < s.size) (h2 : nest ≤ 32) (c47 : ¬ s[a].toNat = 47) (c40 :  s[a].toNat = 40) (t : ByteArray) (q : Nat) (ok : Bool) (HC : ∀ x, Calls Tryz.prog 51 #[.string s, .int .i64 ((a : Int) + 1)] x fun e x' => e = .returned (.tuple #[.string t, .int .i64 q, .bool ok]) ∧ Below x.heap.size x x') :
    Calls Tryz.prog 25 #[.string s, .int .i64 a, .int .i64 nest] w (fun e w' => e = .returned (.tuple #[ov ⟨5, false, 0, t, []⟩ none 0 none 0 0, .int .i64 q, .bool ok]) ∧ Below w.heap.size w w') := by
  have HK : Hid (∀ cs, Blk (w.alloc (.cells cs 25)) w.heap.size cs 25) := hide (fun cs => Blk.new _ _ _)
  have HB : Hid (∀ o, Below w.heap.size w (w.alloc o)) := hide (fun o => (Below.refl _ _).alloc (Nat.le_refl _) _)
  have HZ : Hid (∀ o, (w.alloc o).heap.size = w.heap.size + 1) := hide (fun o => by simp)
  have hs' : (s.size : Int) ≤ 16777216 := by omega
  have ha0 : (0 : Int) ≤ (a : Int) := by omega
  have hn' : (nest : Int) ≤ 100 := by omega
  have hn0 : (0 : Int) ≤ (nest : Int) := by omega
  have d0 : decide ((s.size : Int) ≤ (a : Int)) = false := by simp; omega
  have dn : decide ((32 : Int) < (nest : Int)) = false := by simp; omega
  have hlt : (a : Int) < (s.size : Int) := by omega
  have e47 : ((s[a].toNat : Int) == 47) = false := by rw [beq_eq_false_iff_ne]; omega
  have e40 : ((s[a].toNat : Int) == 40) = true := by rw [beq_iff_eq]; omega
  have CC := hide HC
  clear HC
  go_enter Tryz.func25, Tryz.ntmps25
  go_wp2_with (go_at_call 51; refine (CC.out _).mono ?_; rintro e w2 ⟨rfl, hb2⟩; obtain ⟨⟨r0, r1, r2, r3, r4, r5⟩, ⟨y0, y1, y2, y3, y4, y5⟩⟩ := ((HK.out zobj).below hb2).six; have HB3 := hide (below_t5 (HB.out _) hb2); have HK3 := hide ((HK.out zobj).below hb2); clear hb2)
  exact read_fin (p := ⟨5, false, 0, t, []⟩) (ka := none) (kc := 0) (ia := none) (n := 0) (ic := 0) (st6_blk HK3.out (.int .i64 5) (.bool false) (.int .i64 0) (.string t) (.slice none 0 0) (.slice none 0 0)) ⟨rfl, st6_below HB3.out (Nat.le_refl _) _ _ _ _ _ _⟩ _ rfl rfl rfl rfl
set_option maxRecDepth 8000 in
set_option maxHeartbeats 1000000 in
theorem re_dig1 (s : ByteArray) (a nest : Nat) (w : World) (hs : s.size ≤ 16777216) (ha : a ≤ s.size) (hn : nest ≤ 100)
    (h1 : a < s.size) (h2 : nest ≤ 32) (c47 : ¬ s[a].toNat = 47) (c40 : ¬ s[a].toNat = 40) (c91 : ¬ s[a].toNat = 91) (c60 :  s[a].toNat = 60) (h3 : ¬ a + 1 < s.size) (t : ByteArray) (q : Nat) (ok : Bool) (HC : ∀ x, Calls Tryz.prog 54 #[.string s, .int .i64 ((a : Int) + 1)] x fun e x' => e = .returned (.tuple #[.string t, .int .i64 q, .bool ok]) ∧ Below x.heap.size x x') :
    Calls Tryz.prog 25 #[.string s, .int .i64 a, .int .i64 nest] w (fun e w' => e = .returned (.tuple #[ov ⟨5, false, 0, t, []⟩ none 0 none 0 0, .int .i64 q, .bool ok]) ∧ Below w.heap.size w w') := by
  have HK : Hid (∀ cs, Blk (w.alloc (.cells cs 25)) w.heap.size cs 25) := hide (fun cs => Blk.new _ _ _)
  have HB : Hid (∀ o, Below w.heap.size w (w.alloc o)) := hide (fun o => (Below.refl _ _).alloc (Nat.le_refl _) _)
  have HZ : Hid (∀ o, (w.alloc o).heap.size = w.heap.size + 1) := hide (fun o => by simp)
  have hs' : (s.size : Int) ≤ 16777216 := by omega
  have ha0 : (0 : Int) ≤ (a : Int) := by omega
  have hn' : (nest : Int) ≤ 100 := by omega
  have hn0 : (0 : Int) ≤ (nest : Int) := by omega
  have d0 : decide ((s.size : Int) ≤ (a : Int)) = false := by simp; omega
  have dn : decide ((32 : Int) < (nest : Int)) = false := by simp; omega
  have hlt : (a : Int) < (s.size : Int) := by omega
  have e47 : ((s[a].toNat : Int) == 47) = false := by rw [beq_eq_false_iff_ne]; omega
  have e40 : ((s[a].toNat : Int) == 40) = false := by rw [beq_eq_false_iff_ne]; omega
  have e91 : ((s[a].toNat : Int) == 91) = false := by rw [beq_eq_false_iff_ne]; omega
  have e60 : ((s[a].toNat : Int) == 60) = true := by rw [beq_iff_eq]; omega
  have d3 : decide ((a : Int) + 1 < (s.size : Int)) = false := by simp; omega
  have CC := hide HC
  clear HC
  go_enter Tryz.func25, Tryz.ntmps25
  go_wp2_with (go_at_call 54; refine (CC.out _).mono ?_; rintro e w2 ⟨rfl, hb2⟩; obtain ⟨⟨r0, r1, r2, r3, r4, r5⟩, ⟨y0, y1, y2, y3, y4, y5⟩⟩ := ((HK.out zobj).below hb2).six; have HB3 := hide (below_t5 (HB.out _) hb2); have HK3 := hide ((HK.out zobj).below hb2); clear hb2)
  exact read_fin (p := ⟨5, false, 0, t, []⟩) (ka := none) (kc := 0) (ia := none) (n := 0) (ic := 0) (st6_blk HK3.out (.int .i64 5) (.bool false) (.int .i64 0) (.string t) (.slice none 0 0) (.slice none 0 0)) ⟨rfl, st6_below HB3.out (Nat.le_refl _) _ _ _ _ _ _⟩ _ rfl rfl rfl rfl
set_option maxRecDepth 8000 in
set_option maxHeartbeats 1000000 in
theorem re_dig2 (s : ByteArray) (a nest : Nat) (w : World) (hs : s.size ≤ 16777216) (ha : a ≤ s.size) (hn : nest ≤ 100)
    (h1 : a < s.size) (h2 : nest ≤ 32) (c47 : ¬ s[a].toNat = 47) (c40 : ¬ s[a].toNat = 40) (c91 : ¬ s[a].toNat = 91) (c60 :  s[a].toNat = 60) (h3 : a + 1 < s.size) (c3 : ¬ s[a + 1].toNat = 60) (t : ByteArray) (q : Nat) (ok : Bool) (HC : ∀ x, Calls Tryz.prog 54 #[.string s, .int .i64 ((a : Int) + 1)] x fun e x' => e = .returned (.tuple #[.string t, .int .i64 q, .bool ok]) ∧ Below x.heap.size x x') :
    Calls Tryz.prog 25 #[.string s, .int .i64 a, .int .i64 nest] w (fun e w' => e = .returned (.tuple #[ov ⟨5, false, 0, t, []⟩ none 0 none 0 0, .int .i64 q, .bool ok]) ∧ Below w.heap.size w w') := by
  have HK : Hid (∀ cs, Blk (w.alloc (.cells cs 25)) w.heap.size cs 25) := hide (fun cs => Blk.new _ _ _)
  have HB : Hid (∀ o, Below w.heap.size w (w.alloc o)) := hide (fun o => (Below.refl _ _).alloc (Nat.le_refl _) _)
  have HZ : Hid (∀ o, (w.alloc o).heap.size = w.heap.size + 1) := hide (fun o => by simp)
  have hs' : (s.size : Int) ≤ 16777216 := by omega
  have ha0 : (0 : Int) ≤ (a : Int) := by omega
  have hn' : (nest : Int) ≤ 100 := by omega
  have hn0 : (0 : Int) ≤ (nest : Int) := by omega
  have d0 : decide ((s.size : Int) ≤ (a : Int)) = false := by simp; omega
  have dn : decide ((32 : Int) < (nest : Int)) = false := by simp; omega
  have hlt : (a : Int) < (s.size : Int) := by omega
  have e47 : ((s[a].toNat : Int) == 47) = false := by rw [beq_eq_false_iff_ne]; omega
  have e40 : ((s[a].toNat : Int) == 40) = false := by rw [beq_eq_false_iff_ne]; omega
  have e91 : ((s[a].toNat : Int) == 91) = false := by rw [beq_eq_false_iff_ne]; omega
  have e60 : ((s[a].toNat : Int) == 60) = true := by rw [beq_iff_eq]; omega
  have d3 : (a : Int) + 1 < (s.size : Int) := by omega
  have e3 : ((s[a + 1].toNat : Int) == 60) = false := by rw [beq_eq_false_iff_ne]; omega
  have CC := hide HC
  clear HC
  go_enter Tryz.func25, Tryz.ntmps25
  go_wp2_with (go_at_call 54; refine (CC.out _).mono ?_; rintro e w2 ⟨rfl, hb2⟩; obtain ⟨⟨r0, r1, r2, r3, r4, r5⟩, ⟨y0, y1, y2, y3, y4, y5⟩⟩ := ((HK.out zobj).below hb2).six; have HB3 := hide (below_t5 (HB.out _) hb2); have HK3 := hide ((HK.out zobj).below hb2); clear hb2)
  exact read_fin (p := ⟨5, false, 0, t, []⟩) (ka := none) (kc := 0) (ia := none) (n := 0) (ic := 0) (st6_blk HK3.out (.int .i64 5) (.bool false) (.int .i64 0) (.string t) (.slice none 0 0) (.slice none 0 0)) ⟨rfl, st6_below HB3.out (Nat.le_refl _) _ _ _ _ _ _⟩ _ rfl rfl rfl rfl
set_option maxRecDepth 8000 in
set_option maxHeartbeats 1000000 in
theorem re_listn (s : ByteArray) (a nest : Nat) (w : World) (hs : s.size ≤ 16777216) (ha : a ≤ s.size) (hn : nest ≤ 100)
    (h1 : a < s.size) (h2 : nest ≤ 32) (c47 : ¬ s[a].toNat = 47) (c40 : ¬ s[a].toNat = 40) (c91 :  s[a].toNat = 91) (HC : ∀ x, Calls Tryz.prog 52 #[.string s, .int .i64 ((a : Int) + 1), .int .i64 ((nest : Int) + 1)] x (ReR x none)) :
    Calls Tryz.prog 25 #[.string s, .int .i64 a, .int .i64 nest] w (ReR w none) := by
  have HK : Hid (∀ cs, Blk (w.alloc (.cells cs 25)) w.heap.size cs 25) := hide (fun cs => Blk.new _ _ _)
  have HB : Hid (∀ o, Below w.heap.size w (w.alloc o)) := hide (fun o => (Below.refl _ _).alloc (Nat.le_refl _) _)
  have HZ : Hid (∀ o, (w.alloc o).heap.size = w.heap.size + 1) := hide (fun o => by simp)
  have hs' : (s.size : Int) ≤ 16777216 := by omega
  have ha0 : (0 : Int) ≤ (a : Int) := by omega
  have hn' : (nest : Int) ≤ 100 := by omega
  have hn0 : (0 : Int) ≤ (nest : Int) := by omega
  have d0 : decide ((s.size : Int) ≤ (a : Int)) = false := by simp; omega
  have dn : decide ((32 : Int) < (nest : Int)) = false := by simp; omega
  have hlt : (a : Int) < (s.size : Int) := by omega
  have e47 : ((s[a].toNat : Int) == 47) = false := by rw [beq_eq_false_iff_ne]; omega
  have e40 : ((s[a].toNat : Int) == 40) = false := by rw [beq_eq_false_iff_ne]; omega
  have e91 : ((s[a].toNat : Int) == 91) = true := by rw [beq_iff_eq]; omega
  have CC := hide HC
  clear HC
  go_enter Tryz.func25, Tryz.ntmps25
  go_wp2_with (go_at_call 52; refine (CC.out _).mono ?_; rintro e w2 ⟨⟨p, ka, kc, ia, n, ic, q, rfl⟩, hb2⟩; obtain ⟨⟨r0, r1, r2, r3, r4, r5⟩, ⟨y0, y1, y2, y3, y4, y5⟩⟩ := ((HK.out zobj).below hb2).six; have HB3 := hide (below_t5 (HB.out _) hb2); have HK3 := hide ((HK.out zobj).below hb2); clear hb2)
  have FB := st6_below HB3.out (Nat.le_refl _) (.int .i64 p.kind) (.bool p.flag) (.int .i64 p.num) (.string p.text) (.slice ka p.keys.length kc) (.slice ia n ic)
  exact read_fin (p := p) (ka := ka) (kc := kc) (ia := ia) (n := n) (ic := ic) (st6_blk HK3.out (.int .i64 p.kind) (.bool p.flag) (.int .i64 p.num) (.string p.text) (.slice ka p.keys.length kc) (.slice ia n ic)) ⟨⟨p, ka, kc, ia, n, ic, q, rfl⟩, FB⟩ _ rfl rfl rfl rfl
set_option maxRecDepth 8000 in
set_option maxHeartbeats 1000000 in
theorem re_lists (s : ByteArray) (a nest : Nat) (w : World) (hs : s.size ≤ 16777216) (ha : a ≤ s.size) (hn : nest ≤ 100)
    (h1 : a < s.size) (h2 : nest ≤ 32) (c47 : ¬ s[a].toNat = 47) (c40 : ¬ s[a].toNat = 40) (c91 :  s[a].toNat = 91) (p : Pay) (T : BT Pay) (q : Nat) (HC : ∀ x, Calls Tryz.prog 52 #[.string s, .int .i64 ((a : Int) + 1), .int .i64 ((nest : Int) + 1)] x (ReR x (some (p, T, q)))) :
    Calls Tryz.prog 25 #[.string s, .int .i64 a, .int .i64 nest] w (ReR w (some (p, T, q))) := by
  have HK : Hid (∀ cs, Blk (w.alloc (.cells cs 25)) w.heap.size cs 25) := hide (fun cs => Blk.new _ _ _)
  have HB : Hid (∀ o, Below w.heap.size w (w.alloc o)) := hide (fun o => (Below.refl _ _).alloc (Nat.le_refl _) _)
  have HZ : Hid (∀ o, (w.alloc o).heap.size = w.heap.size + 1) := hide (fun o => by simp)
  have hs' : (s.size : Int) ≤ 16777216 := by omega
  have ha0 : (0 : Int) ≤ (a : Int) := by omega
  have hn' : (nest : Int) ≤ 100 := by omega
  have hn0 : (0 : Int) ≤ (nest : Int) := by omega
  have d0 : decide ((s.size : Int) ≤ (a : Int)) = false := by simp; omega
  have dn : decide ((32 : Int) < (nest : Int)) = false := by simp; omega
  have hlt : (a : Int) < (s.size : Int) := by omega
  have e47 : ((s[a].toNat : Int) == 47) = false := by rw [beq_eq_false_iff_ne]; omega
  have e40 : ((s[a].toNat : Int) == 40) = false := by rw [beq_eq_false_iff_ne]; omega
  have e91 : ((s[a].toNat : Int) == 91) = true := by rw [beq_iff_eq]; omega
  have CC := hide HC
  clear HC
  go_enter Tryz.func25, Tryz.ntmps25
  go_wp2_with (go_at_call 52; refine (CC.out _).mono ?_; rintro e w2 ⟨⟨ka, kc, ia, ic, rfl, hin⟩, hb2⟩; obtain ⟨⟨r0, r1, r2, r3, r4, r5⟩, ⟨y0, y1, y2, y3, y4, y5⟩⟩ := ((HK.out zobj).below hb2).six; have HB3 := hide (below_t5 (HB.out _) hb2); have HK3 := hide ((HK.out zobj).below hb2); rw [HZ.out] at hin; have HI3 := hide hin; clear hin; clear hb2)
  have FB := st6_below HB3.out (Nat.le_refl _) (.int .i64 p.kind) (.bool p.flag) (.int .i64 p.num) (.string p.text) (.slice ka p.keys.length kc) (.slice ia (flen T) ic)
  exact read_fin (p := p) (ka := ka) (kc := kc) (ia := ia) (n := (flen T)) (ic := ic) (st6_blk HK3.out (.int .i64 p.kind) (.bool p.flag) (.int .i64 p.num) (.string p.text) (.slice ka p.keys.length kc) (.slice ia (flen T) ic)) ⟨⟨ka, kc, ia, ic, rfl, HI3.out.sub (only_sub (Nat.le_of_eq (st6_size _ _ _ _ _ _ _ _).symm) fun k h1 _ => ⟨by omega, st6_block (w := w2) (b := w.heap.size) (k := k) (by omega) _ _ _ _ _ _⟩)⟩, FB⟩ _ rfl rfl rfl rfl
theorem re_list (s : ByteArray) (a nest : Nat) (w : World) (hs : s.size ≤ 16777216) (ha : a ≤ s.size) (hn : nest ≤ 100)
    (h1 : a < s.size) (h2 : nest ≤ 32) (c47 : ¬ s[a].toNat = 47) (c40 : ¬ s[a].toNat = 40) (c91 :  s[a].toNat = 91) (R : Option (Pay × BT Pay × Nat)) (HC : ∀ x, Calls Tryz.prog 52 #[.string s, .int .i64 ((a : Int) + 1), .int .i64 ((nest : Int) + 1)] x (ReR x R)) :
    Calls Tryz.prog 25 #[.string s, .int .i64 a, .int .i64 nest] w (ReR w R) := by
  rcases R with _ | ⟨p, T, q⟩
  · exact re_listn s a nest w hs ha hn h1 h2 c47 c40 c91 HC
  · exact re_lists s a nest w hs ha hn h1 h2 c47 c40 c91 p T q HC
set_option maxRecDepth 8000 in
set_option maxHeartbeats 1000000 in
theorem re_dictn (s : ByteArray) (a nest : Nat) (w : World) (hs : s.size ≤ 16777216) (ha : a ≤ s.size) (hn : nest ≤ 100)
    (h1 : a < s.size) (h2 : nest ≤ 32) (c47 : ¬ s[a].toNat = 47) (c40 : ¬ s[a].toNat = 40) (c91 : ¬ s[a].toNat = 91) (c60 :  s[a].toNat = 60) (h3 : a + 1 < s.size) (c3 : s[a + 1].toNat = 60) (HC : ∀ x, Calls Tryz.prog 53 #[.string s, .int .i64 ((a : Int) + 2), .int .i64 ((nest : Int) + 1)] x (ReR x none)) :
    Calls Tryz.prog 25 #[.string s, .int .i64 a, .int .i64 nest] w (ReR w none) := by
  have HK : Hid (∀ cs, Blk (w.alloc (.cells cs 25)) w.heap.size cs 25) := hide (fun cs => Blk.new _ _ _)
  have HB : Hid (∀ o, Below w.heap.size w (w.alloc o)) := hide (fun o => (Below.refl _ _).alloc (Nat.le_refl _) _)
  have HZ : Hid (∀ o, (w.alloc o).heap.size = w.heap.size + 1) := hide (fun o => by simp)
  have hs' : (s.size : Int) ≤ 16777216 := by omega
  have ha0 : (0 : Int) ≤ (a : Int) := by omega
  have hn' : (nest : Int) ≤ 100 := by omega
  have hn0 : (0 : Int) ≤ (nest : Int) := by omega
  have d0 : decide ((s.size : Int) ≤ (a : Int)) = false := by simp; omega
  have dn : decide ((32 : Int) < (nest : Int)) = false := by simp; omega
  have hlt : (a : Int) < (s.size : Int) := by omega
  have e47 : ((s[a].toNat : Int) == 47) = false := by rw [beq_eq_false_iff_ne]; omega
  have e40 : ((s[a].toNat : Int) == 40) = false := by rw [beq_eq_false_iff_ne]; omega
  have e91 : ((s[a].toNat : Int) == 91) = false := by rw [beq_eq_false_iff_ne]; omega
  have e60 : ((s[a].toNat : Int) == 60) = true := by rw [beq_iff_eq]; omega
  have d3 : (a : Int) + 1 < (s.size : Int) := by omega
  have e3 : ((s[a + 1].toNat : Int) == 60) = true := by rw [beq_iff_eq]; omega
  have CC := hide HC
  clear HC
  go_enter Tryz.func25, Tryz.ntmps25
  go_wp2_with (go_at_call 53; refine (CC.out _).mono ?_; rintro e w2 ⟨⟨p, ka, kc, ia, n, ic, q, rfl⟩, hb2⟩; obtain ⟨⟨r0, r1, r2, r3, r4, r5⟩, ⟨y0, y1, y2, y3, y4, y5⟩⟩ := ((HK.out zobj).below hb2).six; have HB3 := hide (below_t5 (HB.out _) hb2); have HK3 := hide ((HK.out zobj).below hb2); clear hb2)
  have FB := st6_below HB3.out (Nat.le_refl _) (.int .i64 p.kind) (.bool p.flag) (.int .i64 p.num) (.string p.text) (.slice ka p.keys.length kc) (.slice ia n ic)
  exact read_fin (p := p) (ka := ka) (kc := kc) (ia := ia) (n := n) (ic := ic) (st6_blk HK3.out (.int .i64 p.kind) (.bool p.flag) (.int .i64 p.num) (.string p.text) (.slice ka p.keys.length kc) (.slice ia n ic)) ⟨⟨p, ka, kc, ia, n, ic, q, rfl⟩, FB⟩ _ rfl rfl rfl rfl
set_option maxRecDepth 8000 in
set_option maxHeartbeats 1000000 in
theorem re_dicts (s : ByteArray) (a nest : Nat) (w : World) (hs : s.size ≤ 16777216) (ha : a ≤ s.size) (hn : nest ≤ 100)
    (h1 : a < s.size) (h2 : nest ≤ 32) (c47 : ¬ s[a].toNat = 47) (c40 : ¬ s[a].toNat = 40) (c91 : ¬ s[a].toNat = 91) (c60 :  s[a].toNat = 60) (h3 : a + 1 < s.size) (c3 : s[a + 1].toNat = 60) (p : Pay) (T : BT Pay) (q : Nat) (HC : ∀ x, Calls Tryz.prog 53 #[.string s, .int .i64 ((a : Int) + 2), .int .i64 ((nest : Int) + 1)] x (ReR x (some (p, T, q)))) :
    Calls Tryz.prog 25 #[.string s, .int .i64 a, .int .i64 nest] w (ReR w (some (p, T, q))) := by
  have HK : Hid (∀ cs, Blk (w.alloc (.cells cs 25)) w.heap.size cs 25) := hide (fun cs => Blk.new _ _ _)
  have HB : Hid (∀ o, Below w.heap.size w (w.alloc o)) := hide (fun o => (Below.refl _ _).alloc (Nat.le_refl _) _)
  have HZ : Hid (∀ o, (w.alloc o).heap.size = w.heap.size + 1) := hide (fun o => by simp)
  have hs' : (s.size : Int) ≤ 16777216 := by omega
  have ha0 : (0 : Int) ≤ (a : Int) := by omega
  have hn' : (nest : Int) ≤ 100 := by omega
  have hn0 : (0 : Int) ≤ (nest : Int) := by omega
  have d0 : decide ((s.size : Int) ≤ (a : Int)) = false := by simp; omega
  have dn : decide ((32 : Int) < (nest : Int)) = false := by simp; omega
  have hlt : (a : Int) < (s.size : Int) := by omega
  have e47 : ((s[a].toNat : Int) == 47) = false := by rw [beq_eq_false_iff_ne]; omega
  have e40 : ((s[a].toNat : Int) == 40) = false := by rw [beq_eq_false_iff_ne]; omega
  have e91 : ((s[a].toNat : Int) == 91) = false := by rw [beq_eq_false_iff_ne]; omega
  have e60 : ((s[a].toNat : Int) == 60) = true := by rw [beq_iff_eq]; omega
  have d3 : (a : Int) + 1 < (s.size : Int) := by omega
  have e3 : ((s[a + 1].toNat : Int) == 60) = true := by rw [beq_iff_eq]; omega
  have CC := hide HC
  clear HC
  go_enter Tryz.func25, Tryz.ntmps25
  go_wp2_with (go_at_call 53; refine (CC.out _).mono ?_; rintro e w2 ⟨⟨ka, kc, ia, ic, rfl, hin⟩, hb2⟩; obtain ⟨⟨r0, r1, r2, r3, r4, r5⟩, ⟨y0, y1, y2, y3, y4, y5⟩⟩ := ((HK.out zobj).below hb2).six; have HB3 := hide (below_t5 (HB.out _) hb2); have HK3 := hide ((HK.out zobj).below hb2); rw [HZ.out] at hin; have HI3 := hide hin; clear hin; clear hb2)
  have FB := st6_below HB3.out (Nat.le_refl _) (.int .i64 p.kind) (.bool p.flag) (.int .i64 p.num) (.string p.text) (.slice ka p.keys.length kc) (.slice ia (flen T) ic)
  exact read_fin (p := p) (ka := ka) (kc := kc) (ia := ia) (n := (flen T)) (ic := ic) (st6_blk HK3.out (.int .i64 p.kind) (.bool p.flag) (.int .i64 p.num) (.string p.text) (.slice ka p.keys.length kc) (.slice ia (flen T) ic)) ⟨⟨ka, kc, ia, ic, rfl, HI3.out.sub (only_sub (Nat.le_of_eq (st6_size _ _ _ _ _ _ _ _).symm) fun k h1 _ => ⟨by omega, st6_block (w := w2) (b := w.heap.size) (k := k) (by omega) _ _ _ _ _ _⟩)⟩, FB⟩ _ rfl rfl rfl rfl
theorem re_dict (s : ByteArray) (a nest : Nat) (w : World) (hs : s.size ≤ 16777216) (ha : a ≤ s.size) (hn : nest ≤ 100)
    (h1 : a < s.size) (h2 : nest ≤ 32) (c47 : ¬ s[a].toNat = 47) (c40 : ¬ s[a].toNat = 40) (c91 : ¬ s[a].toNat = 91) (c60 :  s[a].toNat = 60) (h3 : a + 1 < s.size) (c3 : s[a + 1].toNat = 60) (R : Option (Pay × BT Pay × Nat)) (HC : ∀ x, Calls Tryz.prog 53 #[.string s, .int .i64 ((a : Int) + 2), .int .i64 ((nest : Int) + 1)] x (ReR x R)) :
    Calls Tryz.prog 25 #[.string s, .int .i64 a, .int .i64 nest] w (ReR w R) := by
  rcases R with _ | ⟨p, T, q⟩
  · exact re_dictn s a nest w hs ha hn h1 h2 c47 c40 c91 c60 h3 c3 HC
  · exact re_dicts s a nest w hs ha hn h1 h2 c47 c40 c91 c60 h3 c3 p T q HC
set_option maxRecDepth 8000 in
set_option maxHeartbeats 1000000 in
theorem re_atomn (s : ByteArray) (a nest : Nat) (w : World) (hs : s.size ≤ 16777216) (ha : a ≤ s.size) (hn : nest ≤ 100)
    (h1 : a < s.size) (h2 : nest ≤ 32) (c47 : ¬ s[a].toNat = 47) (c40 : ¬ s[a].toNat = 40) (c91 : ¬ s[a].toNat = 91) (c60 : ¬ s[a].toNat = 60) (HC : ∀ x, Calls Tryz.prog 55 #[.string s, .int .i64 a] x (ReR x none)) :
    Calls Tryz.prog 25 #[.string s, .int .i64 a, .int .i64 nest] w (ReR w none) := by
  have HK : Hid (∀ cs, Blk (w.alloc (.cells cs 25)) w.heap.size cs 25) := hide (fun cs => Blk.new _ _ _)
  have HB : Hid (∀ o, Below w.heap.size w (w.alloc o)) := hide (fun o => (Below.refl _ _).alloc (Nat.le_refl _) _)
  have HZ : Hid (∀ o, (w.alloc o).heap.size = w.heap.size + 1) := hide (fun o => by simp)
  have hs' : (s.size : Int) ≤ 16777216 := by omega
  have ha0 : (0 : Int) ≤ (a : Int) := by omega
  have hn' : (nest : Int) ≤ 100 := by omega
  have hn0 : (0 : Int) ≤ (nest : Int) := by omega
  have d0 : decide ((s.size : Int) ≤ (a : Int)) = false := by simp; omega
  have dn : decide ((32 : Int) < (nest : Int)) = false := by simp; omega
  have hlt : (a : Int) < (s.size : Int) := by omega
  have e47 : ((s[a].toNat : Int) == 47) = false := by rw [beq_eq_false_iff_ne]; omega
  have e40 : ((s[a].toNat : Int) == 40) = false := by rw [beq_eq_false_iff_ne]; omega
  have e91 : ((s[a].toNat : Int) == 91) = false := by rw [beq_eq_false_iff_ne]; omega
  have e60 : ((s[a].toNat : Int) == 60) = false := by rw [beq_eq_false_iff_ne]; omega
  have CC := hide HC
  clear HC
  go_enter Tryz.func25, Tryz.ntmps25
  go_wp2_with (go_at_call 55; refine (CC.out _).mono ?_; rintro e w2 ⟨⟨p, ka, kc, ia, n, ic, q, rfl⟩, hb2⟩; obtain ⟨⟨r0, r1, r2, r3, r4, r5⟩, ⟨y0, y1, y2, y3, y4, y5⟩⟩ := ((HK.out zobj).below hb2).six; have HB3 := hide (below_t5 (HB.out _) hb2); have HK3 := hide ((HK.out zobj).below hb2); clear hb2)
  have FB := st6_below HB3.out (Nat.le_refl _) (.int .i64 p.kind) (.bool p.flag) (.int .i64 p.num) (.string p.text) (.slice ka p.keys.length kc) (.slice ia n ic)
  exact read_fin (p := p) (ka := ka) (kc := kc) (ia := ia) (n := n) (ic := ic) (st6_blk HK3.out (.int .i64 p.kind) (.bool p.flag) (.int .i64 p.num) (.string p.text) (.slice ka p.keys.length kc) (.slice ia n ic)) ⟨⟨p, ka, kc, ia, n, ic, q, rfl⟩, FB⟩ _ rfl rfl rfl rfl
set_option maxRecDepth 8000 in
set_option maxHeartbeats 1000000 in
theorem re_atoms (s : ByteArray) (a nest : Nat) (w : World) (hs : s.size ≤ 16777216) (ha : a ≤ s.size) (hn : nest ≤ 100)
    (h1 : a < s.size) (h2 : nest ≤ 32) (c47 : ¬ s[a].toNat = 47) (c40 : ¬ s[a].toNat = 40) (c91 : ¬ s[a].toNat = 91) (c60 : ¬ s[a].toNat = 60) (p : Pay) (T : BT Pay) (q : Nat) (HC : ∀ x, Calls Tryz.prog 55 #[.string s, .int .i64 a] x (ReR x (some (p, T, q)))) :
    Calls Tryz.prog 25 #[.string s, .int .i64 a, .int .i64 nest] w (ReR w (some (p, T, q))) := by
  have HK : Hid (∀ cs, Blk (w.alloc (.cells cs 25)) w.heap.size cs 25) := hide (fun cs => Blk.new _ _ _)
  have HB : Hid (∀ o, Below w.heap.size w (w.alloc o)) := hide (fun o => (Below.refl _ _).alloc (Nat.le_refl _) _)
  have HZ : Hid (∀ o, (w.alloc o).heap.size = w.heap.size + 1) := hide (fun o => by simp)
  have hs' : (s.size : Int) ≤ 16777216 := by omega
  have ha0 : (0 : Int) ≤ (a : Int) := by omega
  have hn' : (nest : Int) ≤ 100 := by omega
  have hn0 : (0 : Int) ≤ (nest : Int) := by omega
  have d0 : decide ((s.size : Int) ≤ (a : Int)) = false := by simp; omega
  have dn : decide ((32 : Int) < (nest : Int)) = false := by simp; omega
  have hlt : (a : Int) < (s.size : Int) := by omega
  have e47 : ((s[a].toNat : Int) == 47) = false := by rw [beq_eq_false_iff_ne]; omega
  have e40 : ((s[a].toNat : Int) == 40) = false := by rw [beq_eq_false_iff_ne]; omega
  have e91 : ((s[a].toNat : Int) == 91) = false := by rw [beq_eq_false_iff_ne]; omega
  have e60 : ((s[a].toNat : Int) == 60) = false := by rw [beq_eq_false_iff_ne]; omega
  have CC := hide HC
  clear HC
  go_enter Tryz.func25, Tryz.ntmps25
  go_wp2_with (go_at_call 55; refine (CC.out _).mono ?_; rintro e w2 ⟨⟨ka, kc, ia, ic, rfl, hin⟩, hb2⟩; obtain ⟨⟨r0, r1, r2, r3, r4, r5⟩, ⟨y0, y1, y2, y3, y4, y5⟩⟩ := ((HK.out zobj).below hb2).six; have HB3 := hide (below_t5 (HB.out _) hb2); have HK3 := hide ((HK.out zobj).below hb2); rw [HZ.out] at hin; have HI3 := hide hin; clear hin; clear hb2)
  have FB := st6_below HB3.out (Nat.le_refl _) (.int .i64 p.kind) (.bool p.flag) (.int .i64 p.num) (.string p.text) (.slice ka p.keys.length kc) (.slice ia (flen T) ic)
  exact read_fin (p := p) (ka := ka) (kc := kc) (ia := ia) (n := (flen T)) (ic := ic) (st6_blk HK3.out (.int .i64 p.kind) (.bool p.flag) (.int .i64 p.num) (.string p.text) (.slice ka p.keys.length kc) (.slice ia (flen T) ic)) ⟨⟨ka, kc, ia, ic, rfl, HI3.out.sub (only_sub (Nat.le_of_eq (st6_size _ _ _ _ _ _ _ _).symm) fun k h1 _ => ⟨by omega, st6_block (w := w2) (b := w.heap.size) (k := k) (by omega) _ _ _ _ _ _⟩)⟩, FB⟩ _ rfl rfl rfl rfl
theorem re_atom (s : ByteArray) (a nest : Nat) (w : World) (hs : s.size ≤ 16777216) (ha : a ≤ s.size) (hn : nest ≤ 100)
    (h1 : a < s.size) (h2 : nest ≤ 32) (c47 : ¬ s[a].toNat = 47) (c40 : ¬ s[a].toNat = 40) (c91 : ¬ s[a].toNat = 91) (c60 : ¬ s[a].toNat = 60) (R : Option (Pay × BT Pay × Nat)) (HC : ∀ x, Calls Tryz.prog 55 #[.string s, .int .i64 a] x (ReR x R)) :
    Calls Tryz.prog 25 #[.string s, .int .i64 a, .int .i64 nest] w (ReR w R) := by
  rcases R with _ | ⟨p, T, q⟩
  · exact re_atomn s a nest w hs ha hn h1 h2 c47 c40 c91 c60 HC
  · exact re_atoms s a nest w hs ha hn h1 h2 c47 c40 c91 c60 p T q HC
end Go.Proofs.YtalmcdbdibpgkaaGreatDoor
