/-
  Joined: O5Rdl, O5Lar.
-/
import Derived.Test.YtalmcdbdibpgkaaGreatDoorBN
import Derived.Test.YtalmcdbdibpgkaaGreatDoorBM
import Derived.Test.YtalmcdbdibpgkaaGreatDoorBB
import Derived.Test.YtalmcdbdibpgkaaGreatDoorBC
/-
  What the landed reader reads, in plain words: an object, the items of an array, the pairs of a dictionary; by fuel.
-/
namespace Go.Proofs.YtalmcdbdibpgkaaGreatDoor
open Go.RowKit Go.Deep

structure Rd where
  ob : Nat → Nat → Option (Pay × BT Pay × Nat)
  li : Nat → Nat → Option (BT Pay × Nat)
  di : Nat → Nat → Option (List ByteArray × BT Pay × Nat)
abbrev tp (k : Int) (t : List UInt8) : Pay := ⟨k, false, 0, ⟨t.toArray⟩, []⟩
abbrev kp (ks : List ByteArray) : Pay := ⟨7, false, 0, ⟨#[]⟩, ks⟩
def obS (l : List UInt8) (r : Rd) (a nest : Nat) : Option (Pay × BT Pay × Nat) :=
  if Lib.hasPrefix (l.drop (blanksV l a)) [60, 60] = true then (r.di (blanksV l a + 2) (nest + 1)).map fun q => (kp q.1, q.2.1, q.2.2)
  else if Lib.hasPrefix (l.drop (blanksV l a)) [91] = true then (r.li (blanksV l a + 1) (nest + 1)).map fun q => (arrP, q.1, q.2)
  else if Lib.hasPrefix (l.drop (blanksV l a)) [60] = true then (digV (l.drop (blanksV l a + 1)) (blanksV l a + 1)).map fun q => (tp 5 q.1, .nil, q.2)
  else if Lib.hasPrefix (l.drop (blanksV l a)) [40] = true then (quoV (l.drop (blanksV l a + 1)) (blanksV l a + 1)).map fun q => (tp 5 q.1, .nil, q.2)
  else if Lib.hasPrefix (l.drop (blanksV l a)) [47] = true then (nmV (l.drop (blanksV l a + 1)) (blanksV l a + 1)).map fun q => (tp 4 q.1, .nil, q.2)
  else (wdV l (blanksV l a)).map fun q => (q.1, .nil, q.2)
def liS (l : List UInt8) (r : Rd) (k nest : Nat) : Option (BT Pay × Nat) :=
  if Lib.hasPrefix (l.drop (blanksV l k)) [93] = true then some (.nil, blanksV l k + 1)
  else match r.ob (blanksV l k) nest with
    | none => none
    | some (p, T, q) => match r.li q nest with
      | none => none
      | some (N, e) => some (.node 0 0 p T N, e)
def diS (l : List UInt8) (r : Rd) (k nest : Nat) : Option (List ByteArray × BT Pay × Nat) :=
  if Lib.hasPrefix (l.drop (blanksV l k)) [62, 62] = true then some ([], .nil, blanksV l k + 2)
  else if Lib.hasPrefix (l.drop (blanksV l k)) [47] = true then (match nmV (l.drop (blanksV l k + 1)) (blanksV l k + 1) with
    | none => none
    | some (t, j) => match r.ob j nest with
      | none => none
      | some (p, T, q) => match r.di q nest with
        | none => none
        | some (ks, N, e) => some (⟨t.toArray⟩ :: ks, .node 0 0 p T N, e))
  else none
def rec5 (l : List UInt8) : Nat → Rd
  | 0 => ⟨fun _ _ => none, fun _ _ => none, fun _ _ => none⟩
  | f + 1 => ⟨obS l (rec5 l f), liS l (rec5 l f), diS l (rec5 l f)⟩
theorem ob_succ (l : List UInt8) (f a nest : Nat) : (rec5 l (f + 1)).ob a nest = obS l (rec5 l f) a nest := rfl
theorem li_succ (l : List UInt8) (f a nest : Nat) : (rec5 l (f + 1)).li a nest = liS l (rec5 l f) a nest := rfl
theorem di_succ (l : List UInt8) (f a nest : Nat) : (rec5 l (f + 1)).di a nest = diS l (rec5 l f) a nest := rfl

/- places only go on -/
theorem blanks_ge (l : List UInt8) (a : Nat) : a ≤ blanksV l a := by unfold blanksV; omega
theorem dR_lt : ∀ (f : Nat) (l : List UInt8) (p : Nat) (acc bs : List UInt8) (q : Nat), dR f l p acc = some (bs, q) → p < q
  | 0, _, _, _, _, _, h => by simp [dR] at h
  | _ + 1, [], _, _, _, _, h => by simp [dR] at h
  | f + 1, c :: l, p, acc, bs, q, h => by
    rw [dR_cons] at h
    split at h
    · simp only [Option.some.injEq, Prod.mk.injEq] at h; omega
    · cases l with
      | nil => cases h
      | cons d l' =>
        simp only at h
        split at h
        · have := dR_lt f l' (p + 2) _ bs q h; omega
        · cases h
theorem parB_nil : D2.parB [] = false := by decide +kernel
theorem wd_lt (l : List UInt8) (a : Nat) (p : Pay) (q : Nat) (h : wdV l a = some (p, q)) : a < q := by
  unfold wdV at h
  have hge : a ≤ wordV l a := by unfold wordV; omega
  have hne : a < wordV l a := by
    rcases Nat.lt_or_ge a (wordV l a) with hh | hh
    · exact hh
    · exfalso
      rw [show wordV l a - a = 0 by omega, List.take_zero] at h
      unfold wdP at h
      rw [if_neg (by simp), if_neg (by simp), if_neg (by simp), show aiV [] = none from rfl] at h
      simp only [parB_nil] at h
      cases h
  generalize (l.drop a).take (wordV l a - a) = wl at h
  unfold wdP at h
  split at h
  · simp only [Option.some.injEq, Prod.mk.injEq] at h; omega
  split at h
  · simp only [Option.some.injEq, Prod.mk.injEq] at h; omega
  split at h
  · simp only [Option.some.injEq, Prod.mk.injEq] at h; omega
  cases hai : aiV wl with
  | none =>
    rw [hai] at h
    simp only at h
    split at h
    · simp only [Option.some.injEq, Prod.mk.injEq] at h; omega
    · cases h
  | some x =>
    rw [hai] at h
    simp only at h
    cases hr : refV l (wordV l a) with
    | none => rw [hr] at h; simp only [Option.some.injEq, Prod.mk.injEq] at h; omega
    | some e2 =>
      rw [hr] at h
      simp only [Option.some.injEq, Prod.mk.injEq] at h
      unfold refV at hr
      have h1 := blanks_ge l (wordV l a)
      have h2 := blanks_ge l (blanksV l (wordV l a) + 1)
      split at hr
      · split at hr
        · simp only [Option.some.injEq] at hr; omega
        · cases hr
      · cases hr
theorem rec_lt (l : List UInt8) : ∀ f, (∀ a nest p T q, (rec5 l f).ob a nest = some (p, T, q) → a < q) ∧ (∀ a nest T q, (rec5 l f).li a nest = some (T, q) → a < q) ∧ (∀ a nest ks T q, (rec5 l f).di a nest = some (ks, T, q) → a < q)
  | 0 => ⟨fun _ _ _ _ _ h => (by cases h), fun _ _ _ _ h => (by cases h), fun _ _ _ _ _ h => (by cases h)⟩
  | f + 1 => by
    obtain ⟨i1, i2, i3⟩ := rec_lt l f
    refine ⟨fun a nest p T q h => ?_, fun a nest T q h => ?_, fun a nest ks T q h => ?_⟩
    · rw [ob_succ] at h
      have hb := blanks_ge l a
      unfold obS at h
      split at h
      · cases hx : (rec5 l f).di (blanksV l a + 2) (nest + 1) with
        | none => rw [hx] at h; cases h
        | some r =>
          obtain ⟨ks, T', q'⟩ := r
          rw [hx] at h
          simp only [Option.map_some, Option.some.injEq, Prod.mk.injEq] at h
          have := i3 _ _ _ _ _ hx
          omega
      split at h
      · cases hx : (rec5 l f).li (blanksV l a + 1) (nest + 1) with
        | none => rw [hx] at h; cases h
        | some r =>
          obtain ⟨T', q'⟩ := r
          rw [hx] at h
          simp only [Option.map_some, Option.some.injEq, Prod.mk.injEq] at h
          have := i2 _ _ _ _ hx
          omega
      split at h
      · cases hx : digV (l.drop (blanksV l a + 1)) (blanksV l a + 1) with
        | none => rw [hx] at h; cases h
        | some r =>
          obtain ⟨t, q'⟩ := r
          rw [hx] at h
          simp only [Option.map_some, Option.some.injEq, Prod.mk.injEq] at h
          have := dR_lt _ _ _ _ _ _ hx
          omega
      split at h
      · cases hx : quoV (l.drop (blanksV l a + 1)) (blanksV l a + 1) with
        | none => rw [hx] at h; cases h
        | some r =>
          obtain ⟨t, q'⟩ := r
          rw [hx] at h
          simp only [Option.map_some, Option.some.injEq, Prod.mk.injEq] at h
          have := qR_le _ _ _ _ _ _ _ (Nat.le_refl _) hx
          omega
      split at h
      · cases hx : nmV (l.drop (blanksV l a + 1)) (blanksV l a + 1) with
        | none => rw [hx] at h; cases h
        | some r =>
          obtain ⟨t, q'⟩ := r
          rw [hx] at h
          simp only [Option.map_some, Option.some.injEq, Prod.mk.injEq] at h
          have := nR_le _ _ _ _ _ _ (Nat.le_refl _) hx
          omega
      · cases hx : wdV l (blanksV l a) with
        | none => rw [hx] at h; cases h
        | some r =>
          obtain ⟨t, q'⟩ := r
          rw [hx] at h
          simp only [Option.map_some, Option.some.injEq, Prod.mk.injEq] at h
          have := wd_lt _ _ _ _ hx
          omega
    · rw [li_succ] at h
      have hb := blanks_ge l a
      unfold liS at h
      split at h
      · simp only [Option.some.injEq, Prod.mk.injEq] at h; omega
      · cases hx : (rec5 l f).ob (blanksV l a) nest with
        | none => rw [hx] at h; cases h
        | some r =>
          obtain ⟨p, T', j⟩ := r
          rw [hx] at h
          simp only at h
          cases hy : (rec5 l f).li j nest with
          | none => rw [hy] at h; cases h
          | some r =>
            obtain ⟨N, e⟩ := r
            rw [hy] at h
            simp only [Option.some.injEq, Prod.mk.injEq] at h
            have h1 := i1 _ _ _ _ _ hx
            have h2 := i2 _ _ _ _ hy
            omega
    · rw [di_succ] at h
      have hb := blanks_ge l a
      unfold diS at h
      split at h
      · simp only [Option.some.injEq, Prod.mk.injEq] at h; omega
      split at h
      · cases hn : nmV (l.drop (blanksV l a + 1)) (blanksV l a + 1) with
        | none => rw [hn] at h; cases h
        | some r =>
          obtain ⟨t, j⟩ := r
          rw [hn] at h
          simp only at h
          cases hx : (rec5 l f).ob j nest with
          | none => rw [hx] at h; cases h
          | some r =>
            obtain ⟨p, T', j'⟩ := r
            rw [hx] at h
            simp only at h
            cases hy : (rec5 l f).di j' nest with
            | none => rw [hy] at h; cases h
            | some r =>
              obtain ⟨ks', N, e⟩ := r
              rw [hy] at h
              simp only [Option.some.injEq, Prod.mk.injEq] at h
              have h0 := nR_le _ _ _ _ _ _ (Nat.le_refl _) hn
              have h1 := i1 _ _ _ _ _ hx
              have h2 := i3 _ _ _ _ _ hy
              omega
      · cases h

/- good forests, one behind the other -/
theorem goodF_join (nest : Int) : ∀ (acc : List Ent) (U : BT Pay) (n : Int), 0 ≤ n → goodF (joinF acc U) nest n = if goodF (forest acc) nest n < 0 then -1 else goodF U nest (goodF (forest acc) nest n)
  | [], U, n, h => by rw [joinF, forest, goodF, if_neg (by omega)]
  | x :: acc, U, n, h => by
    rw [joinF, forest, goodF_node, goodF_node]
    by_cases hx : goodV x.p x.T nest n < 0
    · rw [if_pos hx, if_pos hx, if_pos (by omega)]
    · rw [if_neg hx, if_neg hx]
      exact goodF_join nest acc U _ (by omega)
theorem goodF_snoc (nest : Int) (acc : List Ent) (x : Ent) (n m : Int) (h : 0 ≤ n) (hm : goodF (forest acc) nest n = m) (h0 : 0 ≤ m) : goodF (forest (acc ++ [x])) nest n = if goodV x.p x.T nest m < 0 then -1 else goodV x.p x.T nest m := by
  rw [← joinF_nil, joinF_snoc, goodF_join nest acc _ n h, hm, if_neg (by omega), goodF_node]
  split
  · rfl
  · rfl
end Go.Proofs.YtalmcdbdibpgkaaGreatDoor
/-
  What the landed array answers, by what object answers.
-/
namespace Go.Proofs.YtalmcdbdibpgkaaGreatDoor
open Go.RowKit Go.Deep
set_option linter.unusedVariables false

def ObR (W0 : World) (b : Nat) (w : World) (s : ByteArray) (nest : Nat) (n : Int) (R : Option (Pay × BT Pay × Nat)) (e : Ending) (w' : World) : Prop := match R with
  | some (p, T, q) => if 0 ≤ goodV p T nest n then (∃ ka kc ia ic, e = .returned (ov p ka kc ia (flen T) ic) ∧ OIn (fresh w.heap.size w') p T ka kc ia ic) ∧ But b w w' ∧ RC W0 b w' s q (65536 - goodV p T nest n) else e = thrown ∧ But b w w'
  | none => e = thrown ∧ But b w w'
def ObC (W0 : World) (f : Nat) : Prop := ∀ (b : Nat) (s : ByteArray) (a nest : Nat) (n : Int) (w : World), RC W0 b w s a (65536 - n) → s.size ≤ 16777216 → nest ≤ 32 → 0 ≤ n → n ≤ 65536 → 3 * (s.size - a) + 1 ≤ f →
  Calls Tryz.prog 24 #[.pointer (some ⟨b, 0, none⟩), .int .i64 ((nest : Int) + 1)] w (ObR W0 b w s nest n ((rec5 s.data.toList f).ob a nest))
def ArR (W0 : World) (b : Nat) (w : World) (s : ByteArray) (d : Nat) (n : Int) (R : Option (BT Pay × Nat)) (e : Ending) (w' : World) : Prop := match R with
  | some (T, q) => if 0 ≤ goodF T d n then (∃ ia ic, e = .returned (ov arrP none 0 ia (flen T) ic) ∧ OIn (fresh w.heap.size w') arrP T none 0 ia ic) ∧ But b w w' ∧ RC W0 b w' s q (65536 - goodF T d n) else e = thrown ∧ But b w w'
  | none => e = thrown ∧ But b w w'
theorem pass_rc (W0 : World) (b : Nat) (s : ByteArray) (a : Nat) (l : Int) (w : World) (h : RC W0 b w s a l) (hs : s.size ≤ 16777216) :
    Calls Tryz.prog 41 #[.pointer (some ⟨b, 0, none⟩)] w fun e w' => e = .returned (.tuple #[]) ∧ But b w w' ∧ RC W0 b w' s (blanksV s.data.toList a) l := by
  refine (pass_any b s a l w h.rat hs h.le).mono ?_
  rintro e w' ⟨rfl, h1, h2⟩
  exact ⟨rfl, h1, h.but h1 h2 (blanks_le s a h.le)⟩
theorem app_obj2 {W W1 : World} {B : Nat} {v : Value} {l : List Ent} (x : Ent) (h : ORow W B v l) (hs : W.heap.size ≤ W1.heap.size) (hk : ∀ k, B ≤ k → k < W.heap.size → W1.heap[k]? = W.heap[k]?) (hB : B ≤ W.heap.size) (hx : x.lies (fresh W.heap.size W1)) (hn : l.length + 1 ≤ 1599289640401) :
    ∃ g N cap w2, (Builtin.append_ #[23, 23] 23 #[v, .slice (some ⟨W1.heap.size, 0, none⟩) 1 1]).run Tryz.prog (W1.alloc (.cells x.cells.toArray 25)) = .ok (.slice (some ⟨g, 0, none⟩) N cap) w2 ∧ ORow w2 B (.slice (some ⟨g, 0, none⟩) N cap) (l ++ [x]) ∧ Below B W1 w2 := by
  obtain ⟨g, cap, w2, h1, h2, h3, _⟩ := app_obj x h hs hk hB hx hn _ rfl
  exact ⟨g, _, cap, w2, h1, h2, h3⟩
abbrev abox (v : Value) : Array Value := #[.int .i64 6, .bool false, .int .i64 0, .string ⟨#[]⟩, .slice none 0 0, v]
theorem li_bad {d : Nat} {n m : Int} {acc : List Ent} {p : Pay} {T : BT Pay} {X : Option (BT Pay × Nat)} (hn : 0 ≤ n) (hm : goodF (forest acc) d n = m) (h0 : 0 ≤ m) (hb : ¬ 0 ≤ goodV p T d m) (R : Option (BT Pay × Nat))
    (hR : R = (match X with | none => none | some (N, e) => some (BT.node 0 0 p T N, e)).map fun (q : BT Pay × Nat) => (joinF acc q.1, q.2)) {W0 : World} {b : Nat} {w w' : World} {s : ByteArray} (h : But b w w') : ArR W0 b w s d n R thrown w' := by
  subst hR
  cases X with
  | none => exact ⟨rfl, h⟩
  | some q =>
    obtain ⟨N, e⟩ := q
    simp only [Option.map_some]
    unfold ArR
    simp only
    have : goodF (joinF acc (BT.node 0 0 p T N)) d n = -1 := by
      rw [goodF_join _ acc _ n hn, hm, if_neg (by omega), goodF_node, if_pos (by omega)]
    rw [this, if_neg (by omega)]
    first | exact ⟨rfl, h⟩ | exact ⟨trivial, h⟩
theorem oin_arr {w w' : World} {B : Nat} {v : Value} {l : List Ent} (h : ORow w B v l) (hl : l.length ≤ 1599289640401) (hs : Sub (fresh B w) w') : ∃ ia ic, v = .slice ia (flen (forest l)) ic ∧ OIn w' arrP (forest l) none 0 ia ic := by
  obtain ⟨ia, ic, hv, i1, i2, i3⟩ := h.items
  refine ⟨ia, ic, hv, ⟨⟨by simp, by simp⟩, ⟨by simp, by simp⟩, by simp [ByteArray.size], by simp⟩, ⟨Or.inl rfl, ⟨by simp, by simp⟩, by omega⟩, ⟨i1, by rw [forest_len]; exact hl⟩, i2, ?_⟩
  rcases i3 with h | ⟨b', off', e, hl, hR⟩
  · exact Or.inl h
  · exact Or.inr ⟨b', off', e, Nat.lt_of_lt_of_le hl hs.size, hR.sub hs⟩
theorem array_deep (b : Nat) (d : Int) (w : World) (hd : 32 < d) : Calls Tryz.prog 44 #[.pointer (some ⟨b, 0, none⟩), .int .i64 d] w fun e w' => e = thrown ∧ But b w w' := by
  have CM := hide must_f
  have hdd : decide (d ≤ 32) = false := by rw [decide_eq_false_iff_not]; omega
  clear hd
  go_enter Tryz.func44, Tryz.ntmps44
  go_wp2_with (go_at_call 40; refine (CM.out _).mono ?_; rintro e wy ⟨rfl, rfl⟩)
  exact ⟨rfl, rfl, But.of_below ((Below.refl _ _).alloc (Nat.le_refl _) _)⟩
set_option maxRecDepth 8000 in
set_option maxHeartbeats 2000000 in
theorem array_rc (W0 : World) (M : Nat) (ih : ∀ g, g < M → ObC W0 g) (f : Nat) (hf : f ≤ M) (b : Nat) (s : ByteArray) (a d : Nat) (n : Int) (w : World) (h : RC W0 b w s a (65536 - n)) (hs : s.size ≤ 16777216) (hd : d ≤ 32) (hn0 : 0 ≤ n) (hn1 : n ≤ 65536) (hfu : 3 * (s.size - a) + 2 ≤ f) :
    Calls Tryz.prog 44 #[.pointer (some ⟨b, 0, none⟩), .int .i64 (d : Int)] w (ArR W0 b w s d n ((rec5 s.data.toList f).li a d)) := by
  obtain ⟨R, hR⟩ : ∃ R, (rec5 s.data.toList f).li a d = R := ⟨_, rfl⟩
  rw [hR]
  have IH := hide ih
  have HR0 := hide hR
  have HF := hide hf
  have HFU := hide hfu
  have HS := hide hs
  have hlt := h.lt
  have HN := hide (show 0 ≤ n ∧ n ≤ 65536 from ⟨hn0, hn1⟩)
  have HD := hide hd
  have CM := hide must_t
  have hdd : decide ((d : Int) ≤ 32) = true := by simp; omega
  have hd0 : (0 : Int) ≤ (d : Int) := by omega
  have hd1 : (d : Int) ≤ 32 := by omega
  have hb1 : Below w.heap.size w ((w.alloc (.cells zobj 25)).alloc (.cells (abox (.slice none 0 0)) 25)) := ((Below.refl _ _).alloc (Nat.le_refl _) _).alloc (by simp) _
  have HB1 := hide (But.of_below (b := b) hb1)
  have HR1 := hide (h.below hb1)
  have HKa : Hid (Blk ((w.alloc (.cells zobj 25)).alloc (.cells (abox (.slice none 0 0)) 25)) w.heap.size zobj 25) := hide ((Blk.new w _ _).below ((Below.refl _ _).alloc (Nat.le_refl _) _))
  have HKo : Hid (Blk ((w.alloc (.cells zobj 25)).alloc (.cells (abox (.slice none 0 0)) 25)) (w.heap.size + 1) (abox (.slice none 0 0)) 25) := hide (by
    have := Blk.new (w.alloc (.cells zobj 25)) (abox (.slice none 0 0)) 25
    rwa [show (w.alloc (.cells zobj 25)).heap.size = w.heap.size + 1 by simp] at this)
  have CP := hide (fun a l w' (h' : RC W0 b w' s a l) => pass_rc W0 b s a l w' h' hs)
  have CT := hide (fun a l w' (h' : RC W0 b w' s a l) t ht => take_rc W0 b s ⟨#[93]⟩ a l w' h' hs (by decide) t ht)
  have hwr : IntKind.i64.wrap ((d : Int) + 1) = (d : Int) + 1 := by rw [IntKind.wrap_i64]; omega
  clear h ih hb1 hR hf hfu hs hn0 hn1 hd
  go_enter Tryz.func44, Tryz.ntmps44
  go_wp2_with fail
  refine (CM.out _).mono ?_
  rintro e wm ⟨rfl, hwm⟩
  subst hwm
  go_wp2_with fail
  refine (CP.out _ _ _ HR1.out).mono ?_
  rintro e w2 ⟨rfl, h1, h2⟩
  have HB2 := hide (HB1.out.trans h1)
  have HR2 := hide h2
  have HKa := hide (HKa.out.but h1 (by omega))
  have HKo := hide (HKo.out.but h1 (by omega))
  have hz2 : w.heap.size + 1 + 1 ≤ w2.heap.size := by have := h1.size; simp at this; omega
  clear h1 h2 HB1 HR1
  go_wp2_with fail
  go_loopg [12] f (fun g _ wr => ∃ (k fu : Nat) (acc : List Ent) (m : Int) (vr : Value), Hid (g = fu ∧ 3 * (s.size - k) + 2 ≤ fu ∧ fu ≤ M ∧ R = ((rec5 s.data.toList fu).li k d).map (fun q => (joinF acc q.1, q.2)) ∧ goodF (forest acc) d n = m ∧ 0 ≤ m ∧ m ≤ 65536 ∧ RC W0 b wr s (blanksV s.data.toList k) (65536 - m) ∧ But b w wr ∧
    Blk wr w.heap.size zobj 25 ∧ Blk wr (w.heap.size + 1) (abox vr) 25 ∧ ORow wr (w.heap.size + 1 + 1) vr acc ∧ w.heap.size + 1 + 1 ≤ wr.heap.size))
  case atStart => exact ⟨a, f, [], n, .slice none 0 0, hide ⟨rfl, HFU.out, HF.out, by rw [HR0.out]; cases R <;> rfl, rfl, HN.out.1, HN.out.2, HR2.out, HB2.out, HKa.out, HKo.out, ORow.nil _ _, hz2⟩⟩
  case round =>
    clear HKa HKo HB2 HR2 hz2 HR0 HFU HF
    obtain ⟨k, fu, acc, m, vr, HV⟩ := hrel
    obtain ⟨hg, hfu, hfm, hR, hm, hm0, hm1, hrc, hbut, hka, hko, hor, hz⟩ := HV.out
    clear HV
    obtain ⟨fu, rfl⟩ : ∃ f', fu = f' + 1 := ⟨fu - 1, by omega⟩
    rw [li_succ] at hR
    unfold liS at hR
    have hkA := blanks_ge s.data.toList k
    have hnn := HN.out
    have hal : acc.length ≤ 65536 := by
      have := goodF_ge (forest acc) d n hnn.1 (by omega)
      rw [forest_len] at this
      omega
    generalize blanksV s.data.toList k = A at hR hrc hkA
    have HBU := hide hbut
    have HKa := hide hka
    have HKo := hide hko
    have HOR := hide hor
    have HG := hide hg
    cases ht : Lib.hasPrefix (s.data.toList.drop A) [93]
    case true =>
      rw [ht, if_pos rfl] at hR
      simp only [Option.map_some, joinF_nil] at hR
      subst hR
      have CT1 := hide (CT.out A _ wr hrc true ht)
      have HM := hide hm
      obtain ⟨ia, ic, hv, _⟩ := hor.items
      subst hv
      generalize hL : flen (forest acc) = LN at HOR HKo
      have HLN := hide hL
      clear hbut hka hko hor hrc hg hfu hfm ht hL
      go_wp2_with fail
      refine CT1.out.mono ?_
      rintro e w7 ⟨rfl, h1, h2⟩
      have HB7 := hide (HBU.out.trans h1)
      have HR7 := hide h2
      have hko7 := HKo.out.but h1 (by omega)
      have hka7 := HKa.out.but h1 (by omega)
      have HO7 := hide (HOR.out.kept h1.size fun k h3 h4 => h1.block k h4 (by omega))
      have HKa7 := hide hka7
      have HKA := hide (show w.heap.size < w7.heap.size from hka7.lt)
      obtain ⟨⟨r0, r1, r2, r3, r4, r5⟩, ⟨y0, y1, y2, y3, y4, y5⟩⟩ := hka7.six
      obtain ⟨⟨q0, q1, q2, q3, q4, q5⟩, _⟩ := hko7.six
      clear h1 h2 hko7 hka7
      go_wp2_with fail
      have hsub : Sub (fresh (w.heap.size + 1 + 1) w7) (fresh w.heap.size (st6 w7 w.heap.size (.int .i64 6) (.bool false) (.int .i64 0) (.string ⟨#[]⟩) (.slice none 0 0) (.slice ia LN ic))) := only_sub (Nat.le_of_eq (st6_size _ _ _ _ _ _ _ _).symm) fun k h1 _ => ⟨by omega, st6_block (w := w7) (b := w.heap.size) (k := k) (by omega) _ _ _ _ _ _⟩
      obtain ⟨ia', ic', hv, hin⟩ := oin_arr HO7.out (by omega) hsub
      simp only [Value.slice.injEq] at hv
      obtain ⟨rfl, hv2, rfl⟩ := hv
      subst hv2
      have hgood : ArR W0 b w s d n (some (forest acc, A + 1)) (.returned (.agg #[.int .i64 6, .bool false, .int .i64 0, .string ⟨#[]⟩, .slice none 0 0, .slice ia (flen (forest acc)) ic])) (st6 w7 w.heap.size (.int .i64 6) (.bool false) (.int .i64 0) (.string ⟨#[]⟩) (.slice none 0 0) (.slice ia (flen (forest acc)) ic)) := by
        unfold ArR
        simp only
        rw [HM.out, if_pos hm0]
        have hbb := st6_but HB7.out (Nat.le_refl _) (.int .i64 6) (.bool false) (.int .i64 0) (.string ⟨#[]⟩) (.slice none 0 0) (.slice ia (flen (forest acc)) ic)
        exact ⟨⟨ia, ic, rfl, hin⟩, hbb, ⟨st6_rat HR7.out.rat (by omega) _ _ _ _ _ _, (st6_below (Below.refl w.heap.size w7) (Nat.le_refl _) _ _ _ _ _ _ |> fun hx => HR7.out.low.trans (hx.mono (by have := HR7.out.hb; omega))), HR7.out.hb, HR7.out.le⟩⟩
      refine arr_fin (st6_blk HKa7.out (.int .i64 6) (.bool false) (.int .i64 0) (.string ⟨#[]⟩) (.slice none 0 0) (.slice ia (flen (forest acc)) ic)) (by rfl) (by rfl) ?_
      exact hgood
    case false =>
      rw [ht, if_neg (by simp)] at hR
      have CT1 := hide (CT.out A _ wr hrc false ht)
      have CO := hide (fun w' (h' : RC W0 b w' s A (65536 - m)) => IH.out fu (by omega) b s A d m w' h' HS.out HD.out hm0 hm1 (by omega))
      cases hob : (rec5 s.data.toList fu).ob A d with
      | none =>
        rw [hob] at hR CO
        simp only [Option.map_none] at hR
        subst hR
        unfold ObR at CO
        simp only at CO
        clear hbut hka hko hor hrc hg hfu hfm ht hob
        go_wp2_with fail
        refine CT1.out.mono ?_
        rintro e w3 ⟨rfl, h1, h2⟩
        have HB3 := hide (HBU.out.trans h1)
        have HR3 : Hid (RC W0 b w3 s A (65536 - m)) := hide h2
        have e5 := (HKo.out.but h1 (by omega)).cell 5
        have e5 : w3.cell? ⟨w.heap.size + 1, 5, none⟩ = some vr := e5
        clear h1 h2
        go_wp2_with fail
        go_region_dies
        all_goals
          go_at_call 24
          refine (CO.out _ (HR3.out.below (Below.refl _ _).drew)).mono ?_
          rintro e wy ⟨rfl, hy⟩
          exact ⟨rfl, rfl, HB3.out.trans ⟨hy.os, hy.tape, hy.output, hy.size, hy.block⟩⟩
      | some r =>
        obtain ⟨p, T, q⟩ := r
        have hAq : A < q := (rec_lt s.data.toList fu).1 _ _ _ _ _ hob
        rw [hob] at hR CO
        simp only at hR
        unfold ObR at CO
        simp only at CO
        by_cases hgd : 0 ≤ goodV p T d m
        case neg =>
          simp only [if_neg hgd] at CO
          have BAD := hide (fun w' (hb : But b w w') => li_bad (W0 := W0) (s := s) hnn.1 hm hm0 hgd R hR hb)
          clear hbut hka hko hor hrc hg hfu hfm ht hob hR
          go_wp2_with fail
          refine CT1.out.mono ?_
          rintro e w3 ⟨rfl, h1, h2⟩
          have HB3 := hide (HBU.out.trans h1)
          have HR3 : Hid (RC W0 b w3 s A (65536 - m)) := hide h2
          have e5 : w3.cell? ⟨w.heap.size + 1, 5, none⟩ = some vr := (HKo.out.but h1 (by omega)).cell 5
          clear h1 h2
          go_wp2_with fail
          go_region_dies
          all_goals
            go_at_call 24
            refine (CO.out _ (HR3.out.below (Below.refl _ _).drew)).mono ?_
            rintro e wy ⟨rfl, hy⟩
            exact ⟨rfl, BAD.out _ (HB3.out.trans ⟨hy.os, hy.tape, hy.output, hy.size, hy.block⟩)⟩
        case pos =>
          simp only [if_pos hgd] at CO
          have hgl := goodV_le p T d m hm0 hm1
          have HRN : Hid (∀ ka kc ia ic, R = ((rec5 s.data.toList fu).li q d).map (fun x => (joinF (acc ++ [⟨0, 0, p, T, ka, kc, ia, ic⟩]) x.1, x.2))) := hide (fun ka kc ia ic => by
            rw [hR, show (fun x : BT Pay × Nat => (joinF (acc ++ [⟨0, 0, p, T, ka, kc, ia, ic⟩]) x.1, x.2)) = fun x => (joinF acc (.node 0 0 p T x.1), x.2) from funext fun x => by rw [joinF_snoc]]
            cases (rec5 s.data.toList fu).li q d with
            | none => rfl
            | some y => rfl)
          have HGS : Hid (∀ ka kc ia ic, goodF (forest (acc ++ [⟨0, 0, p, T, ka, kc, ia, ic⟩])) d n = goodV p T d m) := hide (fun ka kc ia ic => by rw [goodF_snoc _ acc _ n m hnn.1 hm hm0, if_neg (by simp only; omega)])
          obtain ⟨m', hm'⟩ : ∃ m', goodV p T d m = m' := ⟨_, rfl⟩
          rw [hm'] at CO hgd hgl HGS
          have HFQ : Hid (3 * (s.size - k) + 2 ≤ fu + 1 ∧ k < q ∧ fu ≤ M) := hide ⟨hfu, by omega, by omega⟩
          clear hbut hka hko hor hrc hg hfu hfm ht hob hR hm hm'
          go_wp2_with fail
          refine CT1.out.mono ?_
          rintro e w3 ⟨rfl, h1, h2⟩
          have HB3 := hide (HBU.out.trans h1)
          have HR3 : Hid (RC W0 b w3 s A (65536 - m)) := hide h2
          have HKa3 := hide (HKa.out.but h1 (by omega))
          have HKo3 := hide (HKo.out.but h1 (by omega))
          have HO3 := hide (HOR.out.kept h1.size fun k h3 h4 => h1.block k h4 (by omega))
          have hz3 : w.heap.size + 1 + 1 ≤ w3.heap.size := Nat.le_trans hz h1.size
          have e5 : w3.cell? ⟨w.heap.size + 1, 5, none⟩ = some vr := HKo3.out.cell 5
          clear h1 h2
          have AP : Hid (∀ (x : Ent) y, But b w3 y → x.lies (fresh w3.heap.size y) → ∃ g N cap w2, (Builtin.append_ #[23, 23] 23 #[vr, .slice (some ⟨y.heap.size, 0, none⟩) 1 1]).run Tryz.prog (y.alloc (.cells x.cells.toArray 25)) = .ok (.slice (some ⟨g, 0, none⟩) N cap) w2 ∧ ORow w2 (w.heap.size + 1 + 1) (.slice (some ⟨g, 0, none⟩) N cap) (acc ++ [x]) ∧ Below (w.heap.size + 1 + 1) y w2) := hide (fun x y hy hx => app_obj2 x HO3.out hy.size (fun k h1 h2 => hy.block k h2 (by omega)) hz3 hx (by omega))
          have hszl : w.heap.size + 1 < w3.heap.size := by omega
          go_wp2_with fail
          rename_i k0
          have HKK := hide k0
          clear k0
          go_region_law ((first | (go_simp; go_at_call 24; refine (CO.out _ ?_).mono ?_; exact HR3.out.below (Below.refl _ _).drew; rintro e wy ⟨⟨ka, kc, ia, ic, rfl, hin⟩, h1, h2⟩; have hyb : But b w3 wy := ⟨h1.os, h1.tape, h1.output, h1.size, h1.block⟩; obtain ⟨g, N, cap, w4, hr, ho, hb⟩ := AP.out ⟨0, 0, p, T, ka, kc, ia, ic⟩ wy hyb hin; have HR := hide hr; have HY := hide hyb; have HRy := hide h2; have HO4 := hide ho; have HB4 := hide hb; have q5 : wy.cell? ⟨w.heap.size + 1, 5, none⟩ = some vr := (HKo3.out.but hyb (by omega)).cell 5; have hszy : w.heap.size + 1 < wy.heap.size := Nat.lt_of_lt_of_le hszl hyb.size; have HQ5 : Hid (w4.cell? ⟨w.heap.size + 1, 5, none⟩ = some vr) := hide (((HKo3.out.but hyb (by omega)).kept hb (by omega)).cell 5); have HZ5 := hide (((HKo3.out.but hyb (by omega)).kept hb (by omega)).frozen 5); clear h1 h2 hyb hr ho hb hin) | (refine step_append_run _ (by rfl) _ _ _ _ rfl _ _ (by rfl) (by rfl) _ _ HR.out ?_; clear q5; have q5 := HQ5.out; have z5 := HZ5.out)))
          all_goals
            have hko4 : Blk (w4.setCell ⟨w.heap.size + 1, 5, none⟩ (.slice (some ⟨g, 0, none⟩) N cap)) (w.heap.size + 1) (abox (.slice (some ⟨g, 0, none⟩) N cap)) 25 := ((HKo3.out.but HY.out (by omega)).kept HB4.out (by omega)).set 5 (.slice (some ⟨g, 0, none⟩) N cap)
            have hka4 := ((HKa3.out.but HY.out (by omega)).kept HB4.out (by omega)).other (b' := w.heap.size + 1) (by omega) 5 (.slice (some ⟨g, 0, none⟩) N cap)
            have hr4 : RAt (w4.setCell ⟨w.heap.size + 1, 5, none⟩ (.slice (some ⟨g, 0, none⟩) N cap)) b s q (65536 - m') := Blk.other (Blk.kept HRy.out.rat HB4.out (by omega)) (b' := w.heap.size + 1) (by omega) 5 (.slice (some ⟨g, 0, none⟩) N cap)
            have hb4 : But b w (w4.setCell ⟨w.heap.size + 1, 5, none⟩ (.slice (some ⟨g, 0, none⟩) N cap)) := ((HB3.out.trans HY.out).more HB4.out (by omega)).more ((Below.refl w.heap.size w4).setCell (p := ⟨w.heap.size + 1, 5, none⟩) (by simp) (.slice (some ⟨g, 0, none⟩) N cap)) (Nat.le_refl _)
            have ho4 := HO4.out.kept (w' := w4.setCell ⟨w.heap.size + 1, 5, none⟩ (.slice (some ⟨g, 0, none⟩) N cap)) (by simp [World.setCell]) fun k h1 h2 => Below.heap_setCell _ _ _ _ (by simp; omega)
            have hz4 : w.heap.size + 1 + 1 ≤ (w4.setCell ⟨w.heap.size + 1, 5, none⟩ (.slice (some ⟨g, 0, none⟩) N cap)).heap.size := by have h1 := HY.out.size; have h2 := HB4.out.size; simp [World.setCell]; omega
            have hrc4 : RC W0 b (w4.setCell ⟨w.heap.size + 1, 5, none⟩ (.slice (some ⟨g, 0, none⟩) N cap)) s q (65536 - m') := ⟨hr4, (HRy.out.low.trans (HB4.out.mono (by have := HRy.out.hb; omega))).setCell (p := ⟨w.heap.size + 1, 5, none⟩) (by have := HRy.out.hb; simp; omega) (.slice (some ⟨g, 0, none⟩) N cap), HRy.out.hb, HRy.out.le⟩
            have HKo4 := hide hko4
            have HKa4 := hide hka4
            have HR4 := hide hrc4
            have HB5 := hide hb4
            have HO5 := hide ho4
            clear hko4 hka4 hr4 hb4 ho4 hrc4 q5 z5
            refine HKK.out _ _ ?_
            generalize w4.setCell ⟨w.heap.size + 1, 5, none⟩ (.slice (some ⟨g, 0, none⟩) N cap) = w5 at HKo4 HKa4 HR4 HB5 HO5 hz4 ⊢
            go_wp2_with fail
            refine (CP.out q _ _ HR4.out).mono ?_
            rintro e w6 ⟨rfl, h1, h2⟩
            have HB6 := hide (HB5.out.trans h1)
            have HR6 := hide h2
            have HKo6 := hide (HKo4.out.but h1 (by omega))
            have HKa6 := hide (HKa4.out.but h1 (by omega))
            have HO6 := hide (HO5.out.kept h1.size fun k h3 h4 => h1.block k h4 (by omega))
            have hz6 : w.heap.size + 1 + 1 ≤ w6.heap.size := Nat.le_trans hz4 h1.size
            clear h1 h2
            go_wp2_with fail
            go_roundg fu
            case measure => have := HG.out; omega
            case rel => exact ⟨q, fu, acc ++ [⟨0, 0, p, T, ka, kc, ia, ic⟩], m', (.slice (some ⟨g, 0, none⟩) N cap), hide ⟨rfl, (by have h1 := HFQ.out; have h2 := HR4.out.le; omega), HFQ.out.2.2, HRN.out _ _ _ _, HGS.out _ _ _ _, hgd, hgl.2, HR6.out, HB6.out, HKa6.out, HKo6.out, HO6.out, hz6⟩⟩
end Go.Proofs.YtalmcdbdibpgkaaGreatDoor
