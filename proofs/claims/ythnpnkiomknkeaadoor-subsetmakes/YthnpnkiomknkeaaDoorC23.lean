/-
  Joined: S13P, S13L, S13C, S13D.
-/
import Derived.Maps.RangeWalk
import Derived.Test.YthnpnkiomknkeaaDoorC13
import Derived.Test.YthnpnkiomknkeaaDoorC18
import Derived.Test.YthnpnkiomknkeaaDoorC22
namespace Go.Proofs.YthnpnkiomknkeaaDoor.S13
open Go.RowKit Go.Deep Go.Proofs.YthnpnkiomknkeaaDoor.F12
set_option linter.unusedVariables false
set_option linter.unusedSimpArgs false
def pt (pss : List (List Nat)) (i : Nat) : List Nat := pss.getD i []
def rk (pss : List (List Nat)) (us : List Nat) : Nat → Nat → Prop
  | 0, j => j ∈ us
  | k + 1, j => rk pss us k j ∨ ∃ i, rk pss us k i ∧ j ∈ pt pss i
def rch (pss : List (List Nat)) (us : List Nat) (j : Nat) : Prop := ∃ k, rk pss us k j
theorem rch_seed {pss : List (List Nat)} {us : List Nat} {j : Nat} (h : j ∈ us) : rch pss us j := ⟨0, h⟩
theorem rch_part {pss : List (List Nat)} {us : List Nat} {i j : Nat} (h : rch pss us i) (hj : j ∈ pt pss i) : rch pss us j := by
  obtain ⟨k, h⟩ := h
  exact ⟨k + 1, Or.inr ⟨i, h, hj⟩⟩
theorem rk_mono {pss : List (List Nat)} {us : List Nat} {k m j : Nat} (h : rk pss us k j) (hm : k ≤ m) : rk pss us m j := by
  induction m with
  | zero => obtain rfl : k = 0 := by omega
            exact h
  | succ m ih =>
    by_cases e : k = m + 1
    · rw [← e]; exact h
    · exact Or.inl (ih (by omega))
def way (pss : List (List Nat)) : Nat → Nat → Nat → Prop
  | 0, s, j => s = j
  | m + 1, s, j => ∃ i ∈ pt pss s, way pss m i j
theorem way_snoc {pss : List (List Nat)} {m : Nat} : ∀ {s i j : Nat}, way pss m s i → j ∈ pt pss i → way pss (m + 1) s j := by
  induction m with
  | zero => intro s i j h hj; obtain rfl : s = i := h; exact ⟨j, hj, rfl⟩
  | succ m ih =>
    rintro s i j ⟨t, ht, hw⟩ hj
    exact ⟨t, ht, ih hw hj⟩
theorem rk_way {pss : List (List Nat)} {us : List Nat} {k : Nat} : ∀ {j : Nat}, rk pss us k j → ∃ m s, s ∈ us ∧ way pss m s j := by
  induction k with
  | zero => intro j h; exact ⟨0, j, h, rfl⟩
  | succ k ih =>
    rintro j (h | ⟨i, h, hj⟩)
    · exact ih h
    · obtain ⟨m, s, hs, hw⟩ := ih h
      exact ⟨m + 1, s, hs, way_snoc hw hj⟩
theorem way_rk {pss : List (List Nat)} {us : List Nat} {m : Nat} : ∀ {a s j : Nat}, rk pss us a s → way pss m s j → rk pss us (a + m) j := by
  induction m with
  | zero => intro a s j h hw; obtain rfl : s = j := hw; exact h
  | succ m ih =>
    rintro a s j h ⟨i, hi, hw⟩
    have := ih (a := a + 1) (Or.inr ⟨s, h, hi⟩) hw
    rw [show a + (m + 1) = a + 1 + m by omega]
    exact this
theorem way_dp {pss : List (List Nat)} {m : Nat} : ∀ {s j : Nat}, way pss m s j → dpV pss m s = true := by
  induction m with
  | zero => intros; rfl
  | succ m ih =>
    rintro s j ⟨i, hi, hw⟩
    rw [dpV, List.any_eq_true]
    exact ⟨i, hi, ih hw⟩
theorem dp_less {pss : List (List Nat)} {k : Nat} : ∀ {i : Nat}, dpV pss (k + 1) i = true → dpV pss k i = true := by
  induction k with
  | zero => intros; rfl
  | succ k ih =>
    intro i h
    rw [dpV, List.any_eq_true] at h
    obtain ⟨p, hp, h⟩ := h
    rw [dpV, List.any_eq_true]
    exact ⟨p, hp, ih h⟩
theorem dp_le {pss : List (List Nat)} {k m i : Nat} (h : dpV pss m i = true) (hk : k ≤ m) : dpV pss k i = true := by
  induction m with
  | zero => obtain rfl : k = 0 := by omega
            exact h
  | succ m ih =>
    by_cases e : k = m + 1
    · rw [e]; exact h
    · exact ih (dp_less h) (by omega)
theorem rch_nine {pss : List (List Nat)} {us : List Nat} {j : Nat} (hd : deepB pss = false) (hu : ∀ s ∈ us, s < pss.length) (h : rch pss us j) : rk pss us 9 j := by
  obtain ⟨k, h⟩ := h
  obtain ⟨m, s, hs, hw⟩ := rk_way h
  have hm : m < 9 := Nat.lt_of_not_le fun h9 => by
    have h1 := dp_le (way_dp hw) h9
    unfold deepB at hd
    rw [List.any_eq_false] at hd
    exact hd s (List.mem_range.2 (hu s hs)) h1
  have := way_rk (a := 0) (us := us) hs hw
  exact rk_mono this (by omega)
theorem pt_mem {pss : List (List Nat)} {i p : Nat} (h : p ∈ pt pss i) : i < pss.length ∧ pss.getD i [] ∈ pss := by
  unfold pt at h
  rw [List.getD_eq_getElem?_getD] at h
  cases he : pss[i]? with
  | none => rw [he] at h; cases h
  | some ps =>
    have hi := (List.getElem?_eq_some_iff.1 he).1
    exact ⟨hi, by rw [List.getD_eq_getElem?_getD, he]; exact List.mem_of_getElem? he⟩
theorem pt_lt {pss : List (List Nat)} {n i p : Nat} (hp : ∀ ps ∈ pss, ps.length ≤ 1000000 ∧ ∀ p ∈ ps, p < n) (h : p ∈ pt pss i) : p < n := (hp _ (pt_mem h).2).2 p h
theorem rch_lt {pss : List (List Nat)} {us : List Nat} {n j : Nat} (hp : ∀ ps ∈ pss, ps.length ≤ 1000000 ∧ ∀ p ∈ ps, p < n) (hu : ∀ s ∈ us, s < n) (h : rch pss us j) : j < n := by
  obtain ⟨k, h⟩ := h
  cases k with
  | zero => exact hu j h
  | succ k =>
    induction k generalizing j with
    | zero => rcases h with h | ⟨i, _, hj⟩
              · exact hu j h
              · exact pt_lt hp hj
    | succ k ih => rcases h with h | ⟨i, _, hj⟩
                   · exact ih h
                   · exact pt_lt hp hj
def yes (o : List Bool) (j : Nat) : Bool := o.getD j false
theorem yes_lt {o : List Bool} {j : Nat} (h : yes o j = true) : j < o.length := by
  unfold yes at h
  rw [List.getD_eq_getElem?_getD] at h
  cases he : o[j]? with
  | none => rw [he] at h; cases h
  | some b => exact (List.getElem?_eq_some_iff.1 he).1
theorem yes_set (o : List Bool) (i j : Nat) (hi : i < o.length) : yes (o.set i true) j = (decide (i = j) || yes o j) := by
  unfold yes
  rw [List.getD_eq_getElem?_getD, List.getD_eq_getElem?_getD, List.getElem?_set]
  by_cases h : i = j
  · subst h; simp [hi]
  · rw [if_neg h]; simp [h]
theorem yes_rep (n j : Nat) : yes (List.replicate n false) j = false := by
  unfold yes
  rw [List.getD_eq_getElem?_getD, List.getElem?_replicate]
  split <;> rfl
structure Cls (pss : List (List Nat)) (us : List Nat) (n : Nat) (o : List Bool) : Prop where
  len : o.length = n
  iff : ∀ j, j < n → (yes o j = true ↔ rch pss us j)
theorem Cls.uniq {pss : List (List Nat)} {us : List Nat} {n : Nat} {o p : List Bool} (h : Cls pss us n o) (k : Cls pss us n p) : o = p := by
  apply List.ext_getElem?
  intro j
  by_cases hj : j < n
  · have e : yes o j = yes p j := Bool.eq_iff_iff.2 ((h.iff j hj).trans (k.iff j hj).symm)
    unfold yes at e
    rw [List.getD_eq_getElem?_getD, List.getD_eq_getElem?_getD] at e
    rw [List.getElem?_eq_getElem (by rw [h.len]; exact hj), List.getElem?_eq_getElem (by rw [k.len]; exact hj)] at e ⊢
    simpa using e
  · rw [List.getElem?_eq_none (by rw [h.len]; omega), List.getElem?_eq_none (by rw [k.len]; omega)]
def plV (o : List Bool) (k : Nat) : List Nat := (List.range k).filter (yes o)
theorem plV_yes {o : List Bool} {k : Nat} (h : yes o k = true) : plV o (k + 1) = plV o k ++ [k] := by
  unfold plV; rw [List.range_succ, List.filter_append]; simp [h]
theorem plV_no {o : List Bool} {k : Nat} (h : yes o k = false) : plV o (k + 1) = plV o k := by
  unfold plV; rw [List.range_succ, List.filter_append]; simp [h]
theorem plV_len (o : List Bool) (k : Nat) : (plV o k).length ≤ k := by
  unfold plV
  have := List.length_filter_le (yes o) (List.range k)
  rwa [List.length_range] at this
theorem plV_lt {o : List Bool} {k x : Nat} (h : x ∈ plV o k) : x < k := by
  unfold plV at h
  exact List.mem_range.1 (List.mem_filter.1 h).1
structure RI (pss : List (List Nat)) (us : List Nat) (n r i q : Nat) (o : List Bool) : Prop where
  len : o.length = n
  sound : ∀ j, yes o j = true → rch pss us j
  whole : ∀ j, j < n → rk pss us r j → yes o j = true
  next : ∀ x, x < i → rk pss us r x → ∀ j ∈ pt pss x, yes o j = true
  part : rk pss us r i → ∀ j ∈ (pt pss i).take q, yes o j = true
theorem RI.round {pss : List (List Nat)} {us : List Nat} {n r q : Nat} {o : List Bool} (hp : ∀ ps ∈ pss, ps.length ≤ 1000000 ∧ ∀ p ∈ ps, p < n) (hu : ∀ s ∈ us, s < n) (h : RI pss us n r n q o) : RI pss us n (r + 1) 0 0 o where
  len := h.len
  sound := h.sound
  whole := fun j hj hk => by
    rcases hk with hk | ⟨i, hi, hj2⟩
    · exact h.whole j hj hk
    · exact h.next i (rch_lt hp hu ⟨r, hi⟩) hi j hj2
  next := fun x hx => absurd hx (by omega)
  part := fun _ j hj => by simp at hj
theorem RI.skip {pss : List (List Nat)} {us : List Nat} {n r i : Nat} {o : List Bool} (h : RI pss us n r i 0 o) (hi : i < n) (hn : yes o i = false) : RI pss us n r (i + 1) 0 o where
  len := h.len
  sound := h.sound
  whole := h.whole
  next := fun x hx hk j hj => by
    by_cases e : x = i
    · subst e
      rw [h.whole x hi hk] at hn
      cases hn
    · exact h.next x (by omega) hk j hj
  part := fun _ j hj => by simp at hj
theorem RI.full {pss : List (List Nat)} {us : List Nat} {n r i q : Nat} {o : List Bool} (h : RI pss us n r i q o) (hq : (pt pss i).length ≤ q) : RI pss us n r (i + 1) 0 o where
  len := h.len
  sound := h.sound
  whole := h.whole
  next := fun x hx hk j hj => by
    by_cases e : x = i
    · subst e
      exact h.part hk j (by rw [List.take_of_length_le hq]; exact hj)
    · exact h.next x (by omega) hk j hj
  part := fun _ j hj => by simp at hj
theorem RI.step {pss : List (List Nat)} {us : List Nat} {n r i q p : Nat} {o : List Bool} (h : RI pss us n r i q o) (hy : yes o i = true) (hq : (pt pss i)[q]? = some p) (hpn : p < n) : RI pss us n r i (q + 1) (o.set p true) where
  len := by rw [List.length_set]; exact h.len
  sound := fun j hj => by
    rw [yes_set o p j (by rw [h.len]; exact hpn)] at hj
    by_cases e : p = j
    · subst e; exact rch_part (h.sound i hy) (List.mem_of_getElem? hq)
    · exact h.sound j (by simpa [e] using hj)
  whole := fun j hj hk => by rw [yes_set o p j (by rw [h.len]; exact hpn), h.whole j hj hk]; simp
  next := fun x hx hk j hj => by rw [yes_set o p j (by rw [h.len]; exact hpn), h.next x hx hk j hj]; simp
  part := fun hk j hj => by
    rw [yes_set o p j (by rw [h.len]; exact hpn)]
    rw [List.take_add_one, hq, Option.toList_some, List.mem_append] at hj
    rcases hj with hj | hj
    · rw [h.part hk j hj]; simp
    · simp at hj; simp [hj]
theorem RI.start {pss : List (List Nat)} {us : List Nat} {n : Nat} {o : List Bool} (hl : o.length = n) (h : ∀ j, j < n → (yes o j = true ↔ j ∈ us)) : RI pss us n 0 0 0 o where
  len := hl
  sound := fun j hj => rch_seed ((h j (by rw [← hl]; exact yes_lt hj)).1 hj)
  whole := fun j hj hk => (h j hj).2 hk
  next := fun x hx => absurd hx (by omega)
  part := fun _ j hj => by simp at hj
theorem RI.fin {pss : List (List Nat)} {us : List Nat} {n : Nat} {o : List Bool} (hd : deepB pss = false) (hn : pss.length = n) (hu : ∀ s ∈ us, s < n) (h : RI pss us n 9 0 0 o) : Cls pss us n o :=
  ⟨h.len, fun j hj => ⟨h.sound j, fun hr => h.whole j hj (rch_nine hd (by rw [hn]; exact hu) hr)⟩⟩
structure WI (pss : List (List Nat)) (us : List Nat) (n : Nat) (o : List Bool) (S : Nat → Bool) (g q : Nat) : Prop where
  len : o.length = n
  sound : ∀ j, yes o j = true → rch pss us j
  wait : ∀ j, S j = true → j < n ∧ rch pss us j
  seed : ∀ s ∈ us, yes o s = true ∨ S s = true
  next : ∀ i, yes o i = true → i ≠ g → ∀ j ∈ pt pss i, yes o j = true ∨ S j = true
  part : yes o g = true → ∀ j ∈ (pt pss g).take q, yes o j = true ∨ S j = true
  apart : ∀ j, S j = true → yes o j = false
theorem WI.fin {pss : List (List Nat)} {us : List Nat} {n g q : Nat} {o : List Bool} {S : Nat → Bool} (hp : ∀ ps ∈ pss, ps.length ≤ 1000000 ∧ ∀ p ∈ ps, p < n) (h : WI pss us n o S g q) (hg : (pt pss g).length ≤ q ∨ yes o g = false) (hS : ∀ j, S j = false) : Cls pss us n o := by
  refine ⟨h.len, fun j hj => ⟨h.sound j, fun hr => ?_⟩⟩
  obtain ⟨k, hk⟩ := hr
  clear hj
  induction k generalizing j with
  | zero => rcases h.seed j hk with h1 | h1
            · exact h1
            · rw [hS] at h1; cases h1
  | succ k ih =>
    rcases hk with hk | ⟨i, hi, hj2⟩
    · exact ih j hk
    · have hy := ih i hi
      by_cases e : i = g
      · subst e
        rcases hg with hg | hg
        · rcases h.part hy j (by rw [List.take_of_length_le hg]; exact hj2) with h1 | h1
          · exact h1
          · rw [hS] at h1; cases h1
        · rw [hg] at hy; cases hy
      · rcases h.next i hy e j hj2 with h1 | h1
        · exact h1
        · rw [hS] at h1; cases h1
theorem WI.take {pss : List (List Nat)} {us : List Nat} {n g q g' : Nat} {o : List Bool} {S : Nat → Bool} (h : WI pss us n o S g q) (hg : (pt pss g).length ≤ q ∨ yes o g = false) (hS : S g' = true) :
    WI pss us n (o.set g' true) (fun j => S j && !decide (j = g')) g' 0 where
  len := by rw [List.length_set]; exact h.len
  sound := fun j hj => by
    rw [yes_set o g' j (by rw [h.len]; exact (h.wait g' hS).1)] at hj
    by_cases e : g' = j
    · subst e; exact (h.wait g' hS).2
    · exact h.sound j (by simpa [e] using hj)
  wait := fun j hj => by simp at hj; exact h.wait j hj.1
  seed := fun s hs => by
    rw [yes_set o g' s (by rw [h.len]; exact (h.wait g' hS).1)]
    by_cases e : s = g'
    · subst e; simp
    · rcases h.seed s hs with h1 | h1
      · simp [h1]
      · simp [h1, e]
  next := fun i hy hi j hj => by
    rw [yes_set o g' i (by rw [h.len]; exact (h.wait g' hS).1)] at hy
    have hy' : yes o i = true := by simpa [Ne.symm hi] using hy
    rw [yes_set o g' j (by rw [h.len]; exact (h.wait g' hS).1)]
    have h2 : yes o j = true ∨ S j = true := by
      by_cases e : i = g
      · subst e
        rcases hg with hg | hg
        · exact h.part hy' j (by rw [List.take_of_length_le hg]; exact hj)
        · rw [hg] at hy'; cases hy'
      · exact h.next i hy' e j hj
    by_cases e : j = g'
    · subst e; simp
    · rcases h2 with h1 | h1
      · simp [h1]
      · simp [h1, e]
  part := fun _ j hj => by simp at hj
  apart := fun j hj => by
    simp at hj
    rw [yes_set o g' j (by rw [h.len]; exact (h.wait g' hS).1), h.apart j hj.1]
    simp [Ne.symm hj.2]
theorem WI.put {pss : List (List Nat)} {us : List Nat} {n g q p : Nat} {o : List Bool} {S : Nat → Bool} (h : WI pss us n o S g q) (hy : yes o g = true) (hq : (pt pss g)[q]? = some p) (hpn : p < n) (hn : yes o p = false) :
    WI pss us n o (fun j => S j || decide (j = p)) g (q + 1) where
  len := h.len
  sound := h.sound
  wait := fun j hj => by
    simp at hj
    rcases hj with hj | rfl
    · exact h.wait j hj
    · exact ⟨hpn, rch_part (h.sound g hy) (List.mem_of_getElem? hq)⟩
  seed := fun s hs => by rcases h.seed s hs with h1 | h1 <;> simp [h1]
  next := fun i hi hg j hj => by rcases h.next i hi hg j hj with h1 | h1 <;> simp [h1]
  part := fun hg j hj => by
    rw [List.take_add_one, hq, Option.toList_some, List.mem_append] at hj
    rcases hj with hj | hj
    · rcases h.part hg j hj with h1 | h1 <;> simp [h1]
    · simp at hj; simp [hj]
  apart := fun j hj => by
    simp at hj
    rcases hj with hj | rfl
    · exact h.apart j hj
    · exact hn
theorem WI.pass {pss : List (List Nat)} {us : List Nat} {n g q p : Nat} {o : List Bool} {S : Nat → Bool} (h : WI pss us n o S g q) (hq : (pt pss g)[q]? = some p) (hn : yes o p = true) : WI pss us n o S g (q + 1) where
  len := h.len
  sound := h.sound
  wait := h.wait
  seed := h.seed
  next := h.next
  part := fun hg j hj => by
    rw [List.take_add_one, hq, Option.toList_some, List.mem_append] at hj
    rcases hj with hj | hj
    · exact h.part hg j hj
    · simp at hj; simp [hj, hn]
  apart := h.apart
theorem WI.start {pss : List (List Nat)} {us : List Nat} {n : Nat} {S : Nat → Bool} (hu : ∀ s ∈ us, s < n) (h : ∀ j, S j = true ↔ j ∈ us) : WI pss us n (List.replicate n false) S 0 0 where
  len := by simp
  sound := fun j hj => by rw [yes_rep] at hj; cases hj
  wait := fun j hj => ⟨hu j ((h j).1 hj), rch_seed ((h j).1 hj)⟩
  seed := fun s hs => Or.inr ((h s).2 hs)
  next := fun i hi => by rw [yes_rep] at hi; cases hi
  part := fun hi => by rw [yes_rep] at hi; cases hi
  apart := fun j _ => yes_rep _ _
def sS (D : DataW Unit) (g : Nat) : Bool := Maps.has D (.int .i64 (g : Int))
def WS (D : DataW Unit) : Prop := Maps.IsMap D ∧ ∀ kl, Maps.has D kl = true → ∃ g : Nat, kl = .int .i64 (g : Int)
theorem lit_inj {a b : Nat} : (Lit.int .i64 (a : Int)) = .int .i64 (b : Int) ↔ a = b := by
  constructor
  · intro h; injection h with _ h; omega
  · rintro rfl; rfl
theorem sS_put {D : DataW Unit} (hD : Maps.IsMap D) (g : Nat) (d : DataW Unit) : sS (D.put (.int .i64 (g : Int)) d) = fun j => sS D j || decide (j = g) := by
  funext j
  unfold sS
  by_cases h : j = g
  · subst h; rw [Maps.has_put_same hD (show WideAt.IsKeyLit (.int .i64 (j : Int)) from trivial)]; simp
  · rw [Maps.has_put_other (fun e => h (lit_inj.1 e))]; simp [h]
theorem sS_del (D : DataW Unit) (g : Nat) : sS (D.del (.int .i64 (g : Int))) = fun j => sS D j && !decide (j = g) := by
  funext j
  unfold sS
  by_cases h : j = g
  · subst h; rw [Maps.has_del_same]; simp
  · rw [Maps.has_del_other (fun e => h (lit_inj.1 e))]; simp [h]
theorem WS.put {D : DataW Unit} (h : WS D) (g : Nat) (d : DataW Unit) : WS (D.put (.int .i64 (g : Int)) d) := by
  refine ⟨h.1.put _ _, fun kl hk => ?_⟩
  by_cases e : kl = .int .i64 (g : Int)
  · exact ⟨g, e⟩
  · rw [Maps.has_put_other e] at hk; exact h.2 kl hk
theorem WS.del {D : DataW Unit} (h : WS D) (g : Nat) : WS (D.del (.int .i64 (g : Int))) := by
  refine ⟨h.1.del _, fun kl hk => ?_⟩
  by_cases e : kl = .int .i64 (g : Int)
  · exact ⟨g, e⟩
  · rw [Maps.has_del_other e] at hk; exact h.2 kl hk
theorem WS.nil : WS (.map []) := ⟨⟨[], rfl⟩, fun kl h => by simp [Maps.has_eq] at h⟩
theorem sS_nil (j : Nat) : sS (.map []) j = false := by unfold sS; simp [Maps.has_eq]
theorem WS.none {D : DataW Unit} (h : WS D) (h0 : Maps.size D = 0) (j : Nat) : sS D j = false := by
  obtain ⟨es, rfl⟩ := h.1
  rw [Maps.size_eq] at h0
  obtain rfl := List.eq_nil_of_length_eq_zero h0
  exact sS_nil j
def isNo : Value → Bool
  | .bool false => true
  | _ => false
def noes (w : World) (b : Nat) : Nat := match w.heap[b]? with
  | some (.cells cs _ _) => cs.toList.countP isNo
  | _ => 0
abbrev blA (o : List Bool) : Array Value := (o.map Value.bool).toArray
theorem blA_at (o : List Bool) (j : Nat) (h : j < o.length) : (blA o)[j]? = some (.bool (yes o j)) := by
  unfold yes
  simp [List.getElem?_eq_getElem h, List.getD_eq_getElem?_getD]
theorem blA_set (o : List Bool) (i : Nat) (v : Bool) : (blA o).setIfInBounds i (.bool v) = blA (o.set i v) := by
  simp [List.map_set]
theorem blA_no (n : Nat) : Array.replicate n (Value.bool false) = blA (List.replicate n false) := by
  show _ = ((List.replicate n false).map Value.bool).toArray
  simp
theorem countP_no (o : List Bool) : (o.map Value.bool).countP isNo = o.countP (fun b => !b) := by
  rw [List.countP_map]
  have e : (isNo ∘ Value.bool) = fun b => !b := by funext b; cases b <;> rfl
  rw [e]
theorem count_set : ∀ (o : List Bool) (i : Nat), yes o i = false → i < o.length → (o.set i true).countP (fun b => !b) < o.countP (fun b => !b)
  | [], i, _, h => by simp at h
  | b :: o, 0, h, _ => by
    obtain rfl : b = false := by simpa [yes] using h
    rw [List.set_cons_zero, List.countP_cons, List.countP_cons]
    simp
  | b :: o, i + 1, h, hl => by
    have h1 : yes o i = false := by simpa [yes] using h
    have := count_set o i h1 (by simpa using hl)
    rw [List.set_cons_succ, List.countP_cons, List.countP_cons]
    omega
end Go.Proofs.YthnpnkiomknkeaaDoor.S13
namespace Go.Proofs.YthnpnkiomknkeaaDoor.S13
open Go.RowKit Go.Deep Go.Maps Go.Proofs.YthnpnkiomknkeaaDoor.F12
set_option linter.unusedVariables false
set_option linter.unusedSimpArgs false
theorem law3 : Keyed Tryd.prog 3 := int_keyed Tryd.underlying3
theorem key_of (g : Nat) (h : g ≤ 1000000) : keyOf Tryd.prog 3 (.int .i64 (g : Int)) = some (.int .i64 (g : Int)) := keyOf_int_mk Tryd.underlying3 (by
    have e1 : IntKind.i64.min = -9223372036854775808 := by decide
    have e2 : IntKind.i64.max = 9223372036854775807 := by decide
    simp only [Lit.wf, e1, e2, Bool.and_eq_true, decide_eq_true_eq]
    omega)
abbrev OM (w : World) (b n : Nat) (D : DataW Unit) : Prop := w.ownsMap Tryd.prog 3 unitElem b n D
theorem om_below {w w' : World} {b n : Nat} {D : DataW Unit} (h : OM w b n D) (hb : Below w.heap.size w w') : OM w' b n D := by
  have hl := World.ownsMap.lt h
  obtain ⟨es, clock, h1, h2⟩ := h
  exact ⟨es, clock, (hb.block b hl).trans h1, h2⟩
theorem make_map (w : World) : (Instr.makeMap 52 none).run Tryd.prog w = .ok (.map (some w.heap.size)) (w.alloc (.map #[] 0)) := by
  simp [Instr.makeMap, run_underlying Tryd.underlying52, asInt, asIntOf]
set_option maxRecDepth 8000 in
set_option maxHeartbeats 2000000 in
theorem takeOne_any (b n : Nat) (D : DataW Unit) (w : World) (hO : OM w b n D) (hW : WS D) (h0 : Maps.size D ≠ 0) (hg : ∀ j, sS D j = true → j ≤ 1000000) :
    Calls Tryd.prog 19 #[.map (some b)] w fun e w' => ∃ g : Nat, e = .returned (.int .i64 (g : Int)) ∧ sS D g = true ∧ OM w' b n (D.del (.int .i64 (g : Int))) ∧ w.grownBy w' (some b) := by
  have HO := hide hO
  have HW := hide hW
  have H0 := hide h0
  have HG := hide hg
  clear hO hW h0 hg
  go_enter Tryd.func19, Tryd.ntmps19
  go_wp2_with (first | (at_range; refine wpList_range_own _ rfl _ 52 rfl 3 51 law3 Tryd.underlying52 unitElem b n D rfl HO.out ?_; intro w0 hrg0 hg0 hs0))
  go_frame
  refine wp_loop_rounds 1 ?_
  rw [rounds_succ]
  have HH : ∀ (x : Int) (kl : Lit), keyOf Tryd.prog 3 (.int .i64 x) = some kl → Maps.has D kl = true → ∃ g : Nat, x = (g : Int) ∧ kl = .int .i64 (g : Int) ∧ sS D g = true := fun x kl hk hl => by
    obtain ⟨g, rfl⟩ := HW.out.2 kl hl
    obtain ⟨x', ex, e2, _⟩ := keyOf_int_inv Tryd.underlying3 hk
    injection ex with _ ex
    injection e2 with _ e2
    exact ⟨g, by rw [ex, ← e2], rfl, hl⟩
  have HH := hide HH
  go_wp2_with (first
    | (at_next; refine wpList_next_ranges _ rfl _ rfl 3 law3 unitElem (Value.int .i64) (fun _ : Unit => Value.agg #[]) (fun key kl hkey => by obtain ⟨x, rfl, _⟩ := keyOf_int_inv Tryd.underlying3 hkey; exact ⟨x, rfl⟩) (fun v y hv => ⟨(), (unitElem_inv hv).1⟩) b w.heap.size n D _ _ rfl hrg0 (fun hc0 _ => absurd hc0 H0.out) ?_; intro x c kl y w1 cnt1 hk hl hv hat hrg1 hlt hg1 hs1 hen; obtain ⟨g, rfl, rfl, hsg⟩ := HH.out x kl hk hl; have HGR := hide ((hg0.but (some b)).andThen hg1 (fun j hj => by cases hj; exact Or.inl (Nat.le_refl _))); have HKY := hide hk; have HL := hide hsg; clear hk hl hv hat hlt hg0 hs0 hrg0 hg1 hs1 hsg)
    | (at_delete; refine wpList_delete_ranges _ rfl _ _ 52 3 rfl 51 law3 Tryd.underlying52 unitElem b w.heap.size n D _ cnt1 rfl hrg1 (.int .i64 (g : Int)) (.int .i64 (g : Int)) rfl HKY.out ?_; intro w2 cnt2 hrg2 hle hturn))
  go_ret
  exact ⟨g, rfl, HL.out, hrg2.owns, HGR.out.andThen hturn.grown (fun j hj => Or.inr hj)⟩
set_option maxRecDepth 8000 in
set_option maxHeartbeats 2000000 in
theorem placesOf_any (g n c : Nat) (o : List Bool) (w : World) (hl : o.length = n) (hn : n ≤ 100000) (hk : Blk w g (blA o) 4) :
    Calls Tryd.prog 21 #[.slice (some ⟨g, 0, none⟩) n c] w fun e w' => ∃ v, e = .returned v ∧ IRow w' w.heap.size v (G10.ints (plV o n)) ∧ Below w.heap.size w w' := by
  have hn' : (n : Int) ≤ 100000 := by omega
  have HL := hide hl
  have HK := hide hk
  have HN := hide hn
  clear hl hk hn
  go_enter Tryd.func21, Tryd.ntmps21
  go_wp2_with fail
  go_loopw [3, 8] (fun a vi wr => ∃ k : Nat, vi = .int .i64 (k : Int) ∧ Hid (k ≤ n ∧ IRow wr w.heap.size a (G10.ints (plV o k)) ∧ Below w.heap.size w wr)) (fun _ vi _ => n - (intOf vi).toNat)
  case atStart => exact ⟨0, rfl, hide ⟨by omega, IRow.nil _ _, Below.refl _ _⟩⟩
  case round =>
    obtain ⟨k, rfl, HV⟩ := hrel
    obtain ⟨k1, k2, k3⟩ := HV.out
    have hk0 : (0 : Int) ≤ (k : Int) := by omega
    clear HV
    by_cases hlt : k < n
    · have hlt' : (k : Int) < (n : Int) := by omega
      have K2 := hide k2
      have K3 := hide k3
      have oc := (HK.out.kept k3 HK.out.lt).cell k
      rw [blA_at o k (by rw [HL.out]; exact hlt)] at oc
      have olt := (HK.out.kept k3 HK.out.lt).lt
      cases hy : yes o k
      · rw [hy] at oc
        have HS := hide (plV_no hy)
        clear k2 k3 hy
        go_wp2_with fail
        go_roundw
        case rel => exact ⟨k + 1, by go_num, hide ⟨by omega, by rw [HS.out]; exact K2.out, K3.out⟩⟩
        case measure => simp [intOf]; omega
      · rw [hy] at oc
        have HS := hide (plV_yes hy)
        obtain ⟨v', w2, hr, r1, r2, r3, r4, r5⟩ := G10.app_i1 (k : Int) k2 k3.size (by rw [G10.ints_len]; have := plV_len o k; have := HN.out; omega) wr.heap.size rfl
        have HRU := hide hr
        have H5 : Hid (IRow w2 w.heap.size v' (G10.ints (plV o (k + 1)))) := hide (by rw [HS.out, G10.ints_snoc]; exact r1)
        have H6 := hide (k3.trans r5)
        clear hr r1 r2 r3 r4 r5 k2 k3 HS hy
        go_wp2_with (at_builtin; refine Lib.wpList_append_run _ rfl _ _ _ _ rfl _ _ rfl rfl _ _ HRU.out ?_)
        go_roundw
        case rel => exact ⟨k + 1, by go_num, hide ⟨by omega, H5.out, H6.out⟩⟩
        case measure => simp [intOf]; omega
    · have hlt' : ¬ (k : Int) < (n : Int) := by omega
      obtain rfl : k = n := by omega
      have K2 := hide k2
      have K3 := hide k3
      clear k2 k3
      go_wp2_with fail
      go_ret
      exact ⟨_, rfl, K2.out, K3.out⟩
theorem ck_in {m : Mt} {gs : List ByteArray} {cs : List C11.Ch} (h : ckV m gs cs = 0) : (1 ≤ gs.length ∧ gs.length ≤ 4096) ∧ ∃ pss, cpV gs = some pss ∧ deepB pss = false ∧ goodB m = true ∧ gs.length = m.ad.length ∧ C11.gooB cs (gs.length : Int) = true := by
  unfold ckV at h
  split at h
  · rename_i hg
    split at h
    · rename_i hl
      have h4 := (good_in hg).2.2.2.1
      split at h
      · cases h
      · rename_i pss hp
        split at h
        · cases h
        · rename_i hd
          split at h
          · rename_i hgo
            exact ⟨by omega, pss, hp, by simpa using hd, hg, hl, hgo⟩
          · cases h
    · cases h
  · cases h
def usV (zs : List Int) (n : Nat) : Option (List Nat) := if zs.all (fun z => decide (0 ≤ z) && decide (z < (n : Int))) then some (zs.map Int.toNat) else none
theorem usV_no {zs : List Int} {n k : Nat} (hk : k < zs.length) (h : ¬ (0 ≤ zs.getD k 0 ∧ zs.getD k 0 < (n : Int))) : usV zs n = none := by
  unfold usV
  rw [if_neg]
  intro ha
  have := List.all_eq_true.1 ha (zs.getD k 0) (by rw [List.getD_eq_getElem?_getD, List.getElem?_eq_getElem hk]; exact List.getElem_mem hk)
  simp at this
  exact h this
theorem usV_yes {zs : List Int} {n : Nat} (h : ∀ z ∈ zs, 0 ≤ z ∧ z < (n : Int)) : usV zs n = some (zs.map Int.toNat) := by
  unfold usV
  rw [if_pos]
  exact List.all_eq_true.2 fun z hz => by simp; exact h z hz
theorem usV_lt {zs : List Int} {n : Nat} {us : List Nat} (h : usV zs n = some us) : ∀ u ∈ us, u < n := by
  unfold usV at h
  split at h
  · rename_i ha
    injection h with h
    subst h
    intro u hu
    obtain ⟨z, hz, rfl⟩ := List.mem_map.1 hu
    have := List.all_eq_true.1 ha z hz
    simp at this
    omega
  · cases h
theorem pt_gp {gs : List ByteArray} {pss : List (List Nat)} {g : Nat} (h : cpV gs = some pss) (hg : g < gs.length) : ∃ r ps, G10.shV (gs.getD g ⟨#[]⟩).data.toList = some (r, ps) ∧ G10.prV (gs.getD g ⟨#[]⟩).data.toList ps = pt pss g := by
  unfold cpV at h
  split at h
  · rename_i ho
    injection h with h
    unfold okC at ho
    have h1 := List.all_eq_true.1 ho g (List.mem_range.2 hg)
    have e : pt pss g = qf gs g := by
      unfold pt
      rw [← h, List.getD_eq_getElem?_getD, List.getElem?_map, List.getElem?_range hg]
      rfl
    rw [e]
    obtain ⟨q, hq⟩ := Option.isSome_iff_exists.1 h1
    have e2 : qf gs g = q := by unfold qf; rw [hq]; rfl
    rw [e2]
    unfold gpV at hq
    split at hq
    · rename_i r ps hs
      split at hq
      · injection hq with hq
        exact ⟨r, ps, hs, hq⟩
      · cases hq
    · cases hq
  · cases h
def CloR (m : Mt) (gs : List ByteArray) (cs : List C11.Ch) (zs : List Int) (n : Nat) (w : World) (e : Ending) (w' : World) : Prop := Below w.heap.size w w' ∧
  ((ckV m gs cs ≠ 0 ∧ e = .returned (.tuple #[.slice none 0 0, .int .i64 (ckV m gs cs)])) ∨
   (ckV m gs cs = 0 ∧ usV zs n = none ∧ e = .returned (.tuple #[.slice none 0 0, .int .i64 1])) ∨
   (∃ pss us o v, ckV m gs cs = 0 ∧ cpV gs = some pss ∧ usV zs n = some us ∧ Cls pss (0 :: us) n o ∧ e = .returned (.tuple #[v, .int .i64 0]) ∧ IRow w' w.heap.size v (G10.ints (plV o n))))
theorem row_at {w : World} {B : Nat} {v : Value} {zs : List Int} (h : IRow w B v zs) : ∃ a cap, v = .slice a zs.length cap ∧ (zs = [] ∨ ∃ g, a = some ⟨g, 0, none⟩ ∧ B ≤ g ∧ g < w.heap.size ∧ ∀ i, i < zs.length → w.cell? ⟨g, i, none⟩ = some (.int .i64 (zs.getD i 0))) := by
  obtain ⟨a, cap, hv, hl, _, _⟩ := h.lst
  refine ⟨a, cap, hv, ?_⟩
  rcases hl with hz | ⟨b, off, rfl, hb, hc⟩
  · exact Or.inl hz
  · obtain ⟨_, ⟨h0, h1⟩ | ⟨g, cap', cur, hv', hg, hh, _⟩⟩ := h
    · exact Or.inl (List.eq_nil_of_length_eq_zero h1)
    · rw [hv] at hv'
      injection hv' with e1 e2 e3
      injection e1 with e1
      injection e1 with e4 e5 e6
      subst e4 e5
      exact Or.inr ⟨b, rfl, hg, hb, fun i hi => by have := hc i hi; rwa [Nat.zero_add] at this⟩
theorem cell_grown {w w' : World} {B g i : Nat} (h : w.grownBy w' (some B)) (hg : g < w.heap.size) (hne : g ≠ B) : w'.cell? ⟨g, i, none⟩ = w.cell? ⟨g, i, none⟩ := World.cell?_of_block (w := w) (h.block g hg (by simp [hne]))
theorem blk_grown {w w' : World} {B g : Nat} {cs : Array Value} {t : TypeId} (hk : Blk w g cs t) (h : w.grownBy w' (some B)) (hne : g ≠ B) : Blk w' g cs t := by
  have hl := hk.lt
  unfold Blk at hk ⊢
  rw [h.block g hl (by simp [hne])]; exact hk
theorem noes_eq {w : World} {b : Nat} {o : List Bool} {t : TypeId} (h : Blk w b (blA o) t) : noes w b = o.countP (fun b => !b) := by
  unfold noes
  unfold Blk at h
  rw [h]
  exact countP_no o
theorem count_le (o : List Bool) : o.countP (fun b => !b) ≤ o.length := List.countP_le_length
theorem below_grown {w0 w w' : World} {B : Nat} (h : Below w0.heap.size w0 w) (hg : w.grownBy w' (some B)) (hB : w0.heap.size ≤ B) : Below w0.heap.size w0 w' := h.grown hg h.size (fun k e => by cases e; exact hB)
theorem irow_low {w : World} {B B' : Nat} {v : Value} {zs : List Int} (h : IRow w B v zs) (hB : B' ≤ B) : IRow w B' v zs := by
  obtain ⟨h0, h | ⟨g, cap, cur, hv, hg, rest⟩⟩ := h
  · exact ⟨h0, Or.inl h⟩
  · exact ⟨h0, Or.inr ⟨g, cap, cur, hv, by omega, rest⟩⟩
theorem mem_snoc {zs : List Int} {k : Nat} (hk : k < zs.length) (j : Nat) : j ∈ 0 :: (zs.take (k + 1)).map Int.toNat ↔ (j ∈ 0 :: (zs.take k).map Int.toNat ∨ j = (zs.getD k 0).toNat) := by
  rw [List.take_add_one, List.getElem?_eq_getElem hk, Option.toList_some, List.map_append, List.getD_eq_getElem?_getD, List.getElem?_eq_getElem hk]
  simp [or_assoc]
theorem all_snoc {zs : List Int} {k n : Nat} (hk : k < zs.length) (h : ∀ z ∈ zs.take k, 0 ≤ z ∧ z < (n : Int)) (h2 : 0 ≤ zs.getD k 0 ∧ zs.getD k 0 < (n : Int)) : ∀ z ∈ zs.take (k + 1), 0 ≤ z ∧ z < (n : Int) := by
  intro z hz
  rw [List.take_add_one, List.getElem?_eq_getElem hk, Option.toList_some, List.mem_append] at hz
  rcases hz with hz | hz
  · exact h z hz
  · rw [List.getD_eq_getElem?_getD, List.getElem?_eq_getElem hk] at h2
    simp at hz
    subst hz
    exact h2
set_option maxRecDepth 8000 in
set_option maxHeartbeats 16000000 in
theorem close_any (m : Mt) (aa ab ga ca ua : Option Addr) (na nb ng nc ka kb kg kc un uc : Nat) (gs : List ByteArray) (cs : List C11.Ch) (zs : List Int) (w : World) (hna : m.ad.length = na) (hnb : m.be.length = nb) (hng : gs.length = ng) (hnc : cs.length = nc) (hma : na ≤ 1000000) (hmb : nb ≤ 1000000) (hmg : ng ≤ 1000000) (hmc : nc ≤ 1000000) (hz : ∀ g ∈ gs, g.size ≤ 1000000) (hA : Lst w aa m.ad) (hB : Lst w ab m.be) (hG : G10.SLst w ga gs) (hC : C11.CLst w ca cs) (hun : zs.length = un) (hum : un ≤ 1000000) (hU : Lst w ua zs) :
    Calls Tryd.prog 8 #[.agg (fcs m (.slice aa na ka) (.slice ab nb kb) (.slice ga ng kg) (.slice ca nc kc)), .slice ua un uc] w (CloR m gs cs zs ng w) := by
  have bw := (Below.refl w.heap.size w).alloc (Nat.le_refl _) (.cells (fcs m (.slice aa na ka) (.slice ab nb kb) (.slice ga ng kg) (.slice ca nc kc)) 29)
  have k1 := Blk.new w (fcs m (.slice aa na ka) (.slice ab nb kb) (.slice ga ng kg) (.slice ca nc kc)) 29
  have CK := hide (check_any m aa ab ga ca na nb ng nc ka kb kg kc gs cs _ hna hnb hng hnc hma hmb hmg hmc hz (hA.below bw) (hB.below bw) (hG.below bw) (hC.below bw))
  have HB1 := hide bw
  have HK1 := hide k1
  have HG1 := hide (hG.below bw)
  have HU1 := hide (hU.below bw)
  have HNG := hide hng
  have HUN := hide hun
  have HZ := hide hz
  have hum' : (un : Int) ≤ 1000000 := by omega
  have HUM := hide hum
  obtain ⟨R, hR⟩ : ∃ R, ckV m gs cs = R := ⟨_, rfl⟩
  have HR := hide hR
  rw [hR] at CK
  clear hna hnb hng hnc hma hmb hmg hmc hz hA hB hG hC hun hum hU bw k1 hR
  go_enter Tryd.func8, Tryd.ntmps8
  go_wp2_with fail
  refine CK.out.mono ?_
  rintro e w1 ⟨rfl, h1⟩
  have hk := HK1.out.below h1
  have e11 := hk.cell 11
  simp at e11
  have xlt := hk.lt
  have HB2 := hide (below_t5 HB1.out h1)
  have HK2 := hide hk
  have HG2 := hide (HG1.out.below h1)
  have HU2 := hide (HU1.out.below h1)
  clear h1 hk HB1 HK1 HG1 HU1 CK
  by_cases hr0 : R = 0
  case neg =>
    have hr1 : (R == 0) = false := by simp [hr0]
    go_wp2_with fail
    go_ret2
    exact ⟨HB2.out, Or.inl ⟨by rw [HR.out]; exact hr0, by rw [HR.out]; rfl⟩⟩
  subst hr0
  obtain ⟨⟨hn1, hn4⟩, pss, hp, hd, _, _, _⟩ := ck_in HR.out
  rw [HNG.out] at hn1 hn4
  have hpb := (cp_bd hp).2
  rw [HNG.out] at hpb
  have HP := hide hp
  have HPB := hide hpb
  have hn4' : (ng : Int) ≤ 4096 := by omega
  have hmm := make_map w1
  have hk0 : keyOf Tryd.prog 3 (.int .i64 0) = some (.int .i64 0) := key_of 0 (by omega)
  obtain ⟨w2, hrun, hown, hgr⟩ := (World.ownsMap_made w1 Tryd.prog 3 (unitElem (H := Unit))).update law3 Tryd.underlying52 (by decide) hk0 (val := .agg #[]) unitElem_mk
  have HO0 := hide hown
  have HBB := hide (((Below.refl w1.heap.size w1).alloc (Nat.le_refl _) (.map #[] 0)).grown hgr (by simp) (fun k e => by cases e; exact Nat.le_refl _))
  have MK := make_bools ng (by omega)
  clear hp hd hpb hown hgr hk0
  go_wp2_with fail
  go_loopw [26] (fun vi wr => ∃ k : Nat, vi = .int .i64 (k : Int) ∧ Hid (k ≤ un ∧ ∃ D, OM wr w1.heap.size (k + 1) D ∧ WS D ∧ (∀ j, sS D j = true ↔ j ∈ 0 :: (zs.take k).map Int.toNat) ∧ (∀ z ∈ zs.take k, 0 ≤ z ∧ z < (ng : Int)) ∧ Below w1.heap.size w1 wr)) (fun vi _ => un - (intOf vi).toNat)
  case atStart =>
    refine ⟨0, rfl, hide ⟨by omega, _, HO0.out, WS.nil.put 0 _, fun j => ?_, fun z hz => by simp at hz, HBB.out⟩⟩
    rw [show (Lit.int .i64 0) = .int .i64 ((0 : Nat) : Int) from rfl, sS_put ⟨[], rfl⟩ 0]
    show (sS (.map []) j || decide (j = 0)) = true ↔ _
    rw [sS_nil]
    simp
  case round =>
    clear HO0 HBB hrun hmm e11
    obtain ⟨k, rfl, HV⟩ := hrel
    obtain ⟨hk, D, hO, hW, hS, hA, hb⟩ := HV.out
    have hk0 : (0 : Int) ≤ (k : Int) := by omega
    have hkk := HK2.out.below hb
    have e11 := hkk.cell 11
    simp at e11
    have xlt2 := hkk.lt
    clear HV hkk
    have HO := hide hO
    have HW := hide hW
    have HS := hide hS
    have HA := hide hA
    have HB := hide hb
    by_cases hlt : k < un
    case pos =>
      have hlt' : (k : Int) < (un : Int) := by omega
      have hzl : k < zs.length := by rw [HUN.out]; exact hlt
      rcases HU2.out.below hb with hz | ⟨b, of, rfl, hbl, hcell⟩
      · rw [hz] at hzl; simp at hzl
      have hc := hcell k hzl
      have HMS := hide (fun j => mem_snoc hzl j)
      have HAS := hide (fun h2 => all_snoc (n := ng) hzl HA.out h2)
      have HNO := hide (fun h2 => usV_no (n := ng) hzl h2)
      generalize zs.getD k 0 = z at hc HMS HAS HNO
      clear hO hW hS hA hcell hk hzl
      by_cases hz0 : z < 0
      · have HF := hide (HNO.out (by omega))
        clear HMS HAS HNO hb
        go_wp2_with fail
        go_ret2
        exact ⟨below_t5 HB2.out HB.out, Or.inr (Or.inl ⟨HR.out, HF.out, rfl⟩)⟩
      obtain ⟨g, rfl⟩ : ∃ g : Nat, z = (g : Int) := ⟨z.toNat, by omega⟩
      by_cases hz1 : (g : Int) < (ng : Int)
      case neg =>
        have HF := hide (HNO.out (by omega))
        have hz2 : (ng : Int) ≤ (g : Int) := by omega
        clear HMS HAS HNO hb
        go_wp2_with fail
        go_ret2
        exact ⟨below_t5 HB2.out HB.out, Or.inr (Or.inl ⟨HR.out, HF.out, rfl⟩)⟩
      have hz2 : ¬ (ng : Int) ≤ (g : Int) := by omega
      have HKY := hide (key_of g (by omega))
      have HAS2 := hide (HAS.out ⟨by omega, hz1⟩)
      clear HAS HNO hb
      go_wp2_with (first
        | (at_mapUpdate; refine wpList_mapUpdate_own _ rfl _ _ _ 52 rfl 3 51 law3 Tryd.underlying52 (unitElem (H := Unit)) w1.heap.size (k + 1) D rfl HO.out (by have := HUM.out; unfold maxLen; omega) _ _ _ rfl rfl HKY.out _ [] unitElem_mk ?_; intro w5 hown5 hgrow5))
      go_roundw
      case rel =>
        refine ⟨k + 1, by go_num, hide ⟨by omega, _, hown5, HW.out.put g _, fun j => ?_, HAS2.out, HB.out.grown hgrow5 HB.out.size (fun k e => by cases e; exact Nat.le_refl _)⟩⟩
        rw [sS_put HW.out.1, HMS.out j, ← HS.out j]
        simp
      case measure => simp [intOf]; omega
    case neg =>
      obtain rfl : un = k := by omega
      have hlt' : ¬ (un : Int) < (un : Int) := by omega
      have hzt : zs.take un = zs := List.take_of_length_le (by rw [HUN.out]; exact Nat.le_refl _)
      rw [hzt] at hS hA
      have hus := usV_yes hA
      have hul : ∀ s ∈ 0 :: zs.map Int.toNat, s < ng := fun s hs => by
        rcases List.mem_cons.1 hs with rfl | hs
        · omega
        · exact usV_lt hus s hs
      have HUS := hide hus
      have HI0 := hide (WI.start (pss := pss) hul hS)
      generalize zs.map Int.toNat = us at HUS HI0
      have hnk : w1.heap.size < wr.heap.size := World.ownsMap.lt hO
      have HS2 : Hid (OM (wr.alloc (.cells (Array.replicate ng (.bool false)) 4)) w1.heap.size (un + 1) D ∧ Blk (wr.alloc (.cells (Array.replicate ng (.bool false)) 4)) wr.heap.size (blA (List.replicate ng false)) 4 ∧ Below w1.heap.size w1 (wr.alloc (.cells (Array.replicate ng (.bool false)) 4))) := hide ⟨World.ownsMap.alloc hO _, by rw [← blA_no]; exact Blk.new wr _ _, hb.alloc hb.size _⟩
      clear hO hS hA hzt hk hlt HS HA HO HB hb hus hul
      go_wp2_with fail
      generalize wr.alloc (.cells (Array.replicate ng (.bool false)) 4) = V at HS2 ⊢
      generalize wr.heap.size = nk at HS2 hnk ⊢
      clear e11 xlt2 MK
      have HNK := hide hnk
      go_loopw [] (fun wr => Hid (∃ D c o g q, OM wr w1.heap.size c D ∧ WS D ∧ Blk wr nk (blA o) 4 ∧ WI pss (0 :: us) ng o (sS D) g q ∧ ((pt pss g).length ≤ q ∨ yes o g = false) ∧ c ≤ 1000001 + 1000001 * (ng - o.countP (fun b => !b)) ∧ Below w1.heap.size w1 wr)) (fun wr => noes wr nk)
      case atStart => exact hide ⟨D, un + 1, _, 0, 0, HS2.out.1, HW.out, HS2.out.2.1, HI0.out, Or.inr (yes_rep _ _), by have := HUM.out; omega, HS2.out.2.2⟩
      case round =>
        clear HS2 HI0 HW hnk
        obtain ⟨D, c, o, g, q, hO, hW, hk, hI, hg, hc, hb⟩ := hrel.out
        clear hrel
        have HO := hide hO
        have hkk := HK2.out.below hb
        have e11 := hkk.cell 11
        simp at e11
        have xlt2 := hkk.lt
        by_cases hs : Maps.size D = 0
        case pos =>
          have hlen : o.length = ng := hI.len
          have CP := hide (placesOf_any nk ng ng o wr hlen (by omega) hk)
          have HC := hide (hI.fin HPB.out hg (hW.none hs))
          have HBE := hide (below_t5 HB2.out hb)
          have hs' : ¬ (0 : Int) < ((Maps.size D : Nat) : Int) := by omega
          have ng0 : (0 : Int) ≤ (ng : Int) := by omega
          clear hO hW hk hI hg hc hkk hlen
          go_wp2_with (first
            | (at_len; refine wpList_len_own _ rfl _ 52 rfl 3 51 Tryd.underlying52 unitElem w1.heap.size c D rfl HO.out ?_))
          refine CP.out.mono ?_
          rintro e w' ⟨v, rfl, hr, hb2⟩
          have HR2 := hide hr
          have HBF := hide (below_t5 HBE.out hb2)
          have HSZ := hide HBE.out.size
          clear hr hb2
          go_wp2_with fail
          go_ret2
          exact ⟨HBF.out, Or.inr (Or.inr ⟨pss, us, o, v, HR.out, HP.out, HUS.out, HC.out, rfl, irow_low HR2.out HSZ.out⟩)⟩
        case neg =>
          have CT := hide (takeOne_any w1.heap.size c D wr hO hW hs (fun j hj => by have := (hI.wait j hj).1; omega))
          have hs' : (0 : Int) < ((Maps.size D : Nat) : Int) := by omega
          have HW := hide hW
          have HK := hide hk
          have HI := hide hI
          have HG := hide hg
          have HC := hide hc
          have HB := hide hb
          clear hO hW hk hI hg hc hkk hb hs
          go_wp2_with (first
            | (at_len; refine wpList_len_own _ rfl _ 52 rfl 3 51 Tryd.underlying52 unitElem w1.heap.size c D rfl HO.out ?_))
          refine CT.out.mono ?_
          rintro e w4 ⟨g', rfl, hsg, hO4, hgr⟩
          have hgn := (HI.out.wait g' hsg).1
          have hgn' : (g' : Int) < (ng : Int) := by omega
          have hg0 : (0 : Int) ≤ (g' : Int) := by omega
          have hne : nk ≠ w1.heap.size := by have := HNK.out; omega
          have k4 := blk_grown HK.out hgr hne
          have nc := k4.cell g'
          have nf := k4.frozen g'
          have nl := k4.lt
          have hyn := HI.out.apart g' hsg
          rw [blA_at o g' (by rw [HI.out.len]; exact hgn), hyn] at nc
          have b4 := below_grown HB.out hgr (Nat.le_refl _)
          have b5 : Below w1.heap.size w1 (w4.setCell ⟨nk, g', none⟩ (.bool true)) := b4.setCell (p := ⟨nk, g', none⟩) (Nat.le_of_lt HNK.out) _
          have HS5 := hide (show Blk (w4.setCell ⟨nk, g', none⟩ (.bool true)) nk (blA (o.set g' true)) 4 ∧ OM (w4.setCell ⟨nk, g', none⟩ (.bool true)) w1.heap.size c (D.del (.int .i64 (g' : Int))) ∧ Below w1.heap.size w1 (w4.setCell ⟨nk, g', none⟩ (.bool true)) from ⟨by rw [← blA_set]; exact k4.set g' _, World.ownsMap.setCell hO4 (Ne.symm hne) _, b5⟩)
          have HI5 := hide (HI.out.take HG.out hsg)
          have HCN := hide (count_set o g' hyn (by rw [HI.out.len]; exact hgn))
          have HSL := hide (show (o.set g' true).length = ng by rw [List.length_set]; exact HI.out.len)
          have HWD := hide (HW.out.del g')
          have HLO := hide HI.out.len
          have HGN := hide hgn
          rw [← sS_del] at HI5
          have HNOE := hide (noes_eq HK.out)
          have e11b : (w4.setCell ⟨nk, g', none⟩ (.bool true)).cell? ⟨w.heap.size, 11, none⟩ = some (.slice ga ng kg) := by
            have := (HK2.out.below b5).cell 11
            simpa using this
          have xlt3 := (HK2.out.below b5).lt
          obtain ⟨gb, gf, rfl, hgb, hgc⟩ : ∃ b o, ga = some ⟨b, o, none⟩ ∧ b < (w4.setCell ⟨nk, g', none⟩ (.bool true)).heap.size ∧ (w4.setCell ⟨nk, g', none⟩ (.bool true)).cell? ⟨b, o + g', none⟩ = some (.string (gs.getD g' ⟨#[]⟩)) := by
            rcases HG2.out.below b5 with hz | ⟨b, of, h1, h2, h3⟩
            · have := HNG.out; rw [hz] at this; simp at this; omega
            · exact ⟨b, of, h1, h2, h3 g' (by rw [HNG.out]; exact hgn)⟩
          obtain ⟨r, ps, hsh, hpt⟩ := pt_gp HP.out (by rw [HNG.out]; exact hgn)
          have hgz : (gs.getD g' ⟨#[]⟩).size ≤ 1000000 := HZ.out _ (by
            rw [List.getD_eq_getElem?_getD, List.getElem?_eq_getElem (by rw [HNG.out]; exact hgn)]; exact List.getElem_mem _)
          have CPa : ∀ u, Calls Tryd.prog 20 #[.string (gs.getD g' ⟨#[]⟩)] u fun e w' => ∃ v, e = .returned (.tuple #[v, .int .i64 0]) ∧ IRow w' u.heap.size v (G10.ints (pt pss g')) ∧ Below u.heap.size u w' := fun u =>
            (G10.parts_any (gs.getD g' ⟨#[]⟩) u hgz).mono fun e w' h => by
              unfold G10.PrR at h
              rw [hsh] at h
              simp only [hpt] at h
              exact h
          have CPa := hide CPa
          generalize gs.getD g' ⟨#[]⟩ = gstr at CPa hgc
          clear hsh hpt hgz r ps hO4 hgr hgn hsg hyn b4 b5 k4 HB HK HI HG HO CT e11 xlt2
          go_wp2_with fail
          generalize w4.setCell ⟨nk, g', none⟩ (.bool true) = w5 at HS5 e11b xlt3 hgb hgc ⊢
          refine (CPa.out _).mono ?_
          rintro e w6 ⟨v, rfl, hr, hb6⟩
          obtain ⟨pa, pcap, rfl, hrow⟩ := row_at hr
          have HRW := hide hrow
          obtain ⟨L, hL⟩ : ∃ L, (pt pss g').length = L := ⟨_, rfl⟩
          have hLL : (G10.ints (pt pss g')).length = L := by rw [G10.ints_len]; exact hL
          rw [hLL]
          have HLE := hide hL
          have hL6 : L ≤ 1000000 := by
            rw [← hL]
            by_cases h0 : pt pss g' = []
            · rw [h0]; simp
            · obtain ⟨p, hp⟩ := List.exists_mem_of_ne_nil _ h0
              exact (HPB.out _ (pt_mem hp).2).1
          have hL6' : (L : Int) ≤ 1000000 := by omega
          have hL0 : (0 : Int) ≤ (L : Int) := by omega
          have HB6 := hide (HS5.out.2.2.trans (hb6.mono HS5.out.2.2.size))
          have HS6 := hide (show Blk w6 nk (blA (o.set g' true)) 4 ∧ OM w6 w1.heap.size c (D.del (.int .i64 (g' : Int))) from ⟨HS5.out.1.below hb6, om_below HS5.out.2.1 hb6⟩)
          have HRB : Hid (w1.heap.size ≠ nk ∧ w1.heap.size < w5.heap.size) := hide ⟨by have := HNK.out; omega, by have := HNK.out; have := HS5.out.1.lt; omega⟩
          clear hr hb6 hrow e11b xlt3 hgb hgc hL hLL CPa HS5
          go_wp2_with fail
          go_loopw [66] (fun vi wq => ∃ k : Nat, vi = .int .i64 (k : Int) ∧ Hid (k ≤ L ∧ ∃ D' c', OM wq w1.heap.size c' D' ∧ WS D' ∧ WI pss (0 :: us) ng (o.set g' true) (sS D') g' k ∧ c' ≤ c + k ∧ w6.grownBy wq (some w1.heap.size))) (fun vi _ => L - (intOf vi).toNat)
          case atStart => exact ⟨0, rfl, hide ⟨by omega, _, c, HS6.out.2, HWD.out, HI5.out, by omega, ⟨rfl, rfl, rfl, Nat.le_refl _, fun _ _ _ => rfl⟩⟩⟩
          case round =>
            clear HI5 HWD
            obtain ⟨k, rfl, HV⟩ := hrel
            obtain ⟨hk, D', c', hO, hW, hI, hc, hgr⟩ := HV.out
            have hk0 : (0 : Int) ≤ (k : Int) := by omega
            clear HV
            have kq := blk_grown HS6.out.1 hgr (Ne.symm HRB.out.1)
            have HO := hide hO
            have HW := hide hW
            have HI := hide hI
            by_cases hlt : k < L
            case pos =>
              have hlt' : (k : Int) < (L : Int) := by omega
              obtain ⟨p, hpk⟩ : ∃ p, (pt pss g')[k]? = some p := ⟨_, List.getElem?_eq_getElem (by rw [HLE.out]; exact hlt)⟩
              have hpn : p < ng := pt_lt HPB.out (List.mem_of_getElem? hpk)
              have hpn' : (p : Int) < (ng : Int) := by omega
              have hp0 : (0 : Int) ≤ (p : Int) := by omega
              obtain ⟨pg, rfl, hpg, hpc⟩ : ∃ pg, pa = some ⟨pg, 0, none⟩ ∧ pg < wr.heap.size ∧ wr.cell? ⟨pg, k, none⟩ = some (.int .i64 (p : Int)) := by
                rcases HRW.out with hz | ⟨pg, h1, h2, h3, h4⟩
                · have := G10.ints_len (pt pss g'); rw [hz, HLE.out] at this; simp at this; omega
                · refine ⟨pg, h1, Nat.lt_of_lt_of_le h3 hgr.size, ?_⟩
                  rw [cell_grown hgr h3 (by have := HRB.out.2; omega), h4 k (by rw [G10.ints_len, HLE.out]; exact hlt)]
                  unfold G10.ints
                  rw [List.getD_eq_getElem?_getD, List.getElem?_map, hpk]
                  rfl
              have nc := kq.cell p
              have nl := kq.lt
              rw [blA_at _ p (by rw [HSL.out]; exact hpn)] at nc
              have HPK := hide hpk
              have HGR := hide hgr
              cases hy : yes (o.set g' true) p
              · rw [hy] at nc
                have HKY := hide (key_of p (by omega))
                have HIP := hide (hI.put (by rw [yes_set o g' g' (by rw [HLO.out]; exact HGN.out)]; simp) hpk hpn hy)
                have hcm : c' < maxLen := by
                  have := HC.out
                  have : ng - o.countP (fun b => !b) ≤ 4096 := by omega
                  unfold maxLen
                  have : c ≤ 1000001 + 1000001 * 4096 := by
                    refine Nat.le_trans HC.out ?_
                    have := Nat.mul_le_mul_left 1000001 this
                    omega
                  omega
                have HCM := hide hcm
                clear hO hW hI hgr hk hpk hpn hy kq hcm
                go_wp2_with (first
                  | (at_mapUpdate; refine wpList_mapUpdate_own _ rfl _ _ _ 52 rfl 3 51 law3 Tryd.underlying52 (unitElem (H := Unit)) w1.heap.size c' D' rfl HO.out HCM.out _ _ _ rfl rfl HKY.out _ [] unitElem_mk ?_; intro w7 hown7 hgrow7))
                go_roundw
                case rel =>
                  refine ⟨k + 1, by go_num, hide ⟨by omega, _, _, hown7, HW.out.put p _, ?_, by omega, HGR.out.andThen hgrow7 (fun j hj => Or.inr hj)⟩⟩
                  rw [sS_put HW.out.1]
                  exact HIP.out
                case measure => simp [intOf]; omega
              · rw [hy] at nc
                have HIP := hide (hI.pass hpk hy)
                clear hO hW hI hgr hk hpk hpn hy kq
                go_wp2_with fail
                go_roundw
                case rel => exact ⟨k + 1, by go_num, hide ⟨by omega, D', c', HO.out, HW.out, HIP.out, by omega, HGR.out⟩⟩
                case measure => simp [intOf]; omega
            case neg =>
              obtain rfl : L = k := by omega
              have hlt' : ¬ (L : Int) < (L : Int) := by omega
              have HKQ := hide kq
              have HBQ := hide (HB6.out.grown hgr HB6.out.size (fun k e => by cases e; exact Nat.le_refl _))
              have HCC := hide (show c' ≤ 1000001 + 1000001 * (ng - (o.set g' true).countP (fun b => !b)) by
                have h1 := HCN.out
                have h2 := HC.out
                have h3 := count_le o
                have h4 := HLO.out
                have h5 : ng - o.countP (fun b => !b) + 1 ≤ ng - (o.set g' true).countP (fun b => !b) := by omega
                have h6 := Nat.mul_le_mul_left 1000001 h5
                omega)
              clear hO hW hI hgr hk hlt kq hc
              go_wp2_with fail
              go_roundw
              case rel => exact hide ⟨D', c', o.set g' true, g', L, HO.out, HW.out, HKQ.out, HI.out, Or.inl (by rw [HLE.out]; exact Nat.le_refl _), HCC.out, HBQ.out⟩
              case measure =>
                rw [noes_eq HKQ.out, HNOE.out]
                exact HCN.out
end Go.Proofs.YthnpnkiomknkeaaDoor.S13
