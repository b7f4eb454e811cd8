/-
  What groups come to: the spans that are taken are good, and say of each code what the groups send it to. Pure.
-/
import Derived.Test.YtkmmphpaaahajaaC11Sp
namespace Go.Proofs.Ytkmmphpaaahajaa
set_option linter.unusedVariables false

def hitA (cs : List Ch) (c : Int) : Bool := cs.any fun x => hit x c
theorem finV_app : ∀ (cs ds : List Ch) (c : Int), finV (cs ++ ds) c = if hitA cs c then finV cs c else finV ds c
  | [], ds, c => rfl
  | x :: r, ds, c => by
    rw [List.cons_append, finV_cons, finV_cons]
    cases h : hit x c
    · have e : hitA (x :: r) c = hitA r c := by unfold hitA; rw [List.any_cons, h]; rfl
      rw [e]
      simp only [Bool.false_eq_true, if_false]
      exact finV_app r ds c
    · have e : hitA (x :: r) c = true := by unfold hitA; rw [List.any_cons, h]; rfl
      rw [e]; simp
theorem finV_no : ∀ (cs : List Ch) (c : Int), hitA cs c = false → finV cs c = 0
  | [], c, _ => rfl
  | x :: r, c, h => by
    unfold hitA at h
    rw [List.any_cons, Bool.or_eq_false_iff] at h
    rw [finV_cons, h.1]
    simp only [Bool.false_eq_true, if_false]
    exact finV_no r c h.2
theorem hitA_above {cs : List Ch} {N c : Int} (h : ∀ x ∈ cs, x.l < N) (hc : N ≤ c) : hitA cs c = false := by
  unfold hitA
  rw [List.any_eq_false]
  intro x hx
  have := h x hx
  unfold hit
  simp; omega
/- good lists, from the right -/
def GS (cs : List Ch) : Prop := ∀ i, i < cs.length → okB cs 4096 i = true
theorem getD_left (cs : List Ch) (x : Ch) (i : Nat) (h : i < cs.length) : (cs ++ [x]).getD i c0 = cs.getD i c0 := by
  rw [List.getD_eq_getElem?_getD, List.getElem?_append_left h, ← List.getD_eq_getElem?_getD]
theorem getD_last (cs : List Ch) (x : Ch) : (cs ++ [x]).getD cs.length c0 = x := by simp [List.getD_eq_getElem?_getD]
theorem GS.nil : GS [] := fun i h => by simp at h
theorem GS.one {x : Ch} (h : fitB x 4096 = true) : GS [x] := fun i hi => by
  obtain rfl : i = 0 := by simpa using hi
  unfold okB
  rw [show ([x] : List Ch).getD 0 c0 = x from rfl, h]; rfl
theorem GS.snoc {cs : List Ch} {y x : Ch} (h : GS (cs ++ [y])) (hx : fitB x 4096 = true) (hn : nxB y x = true) : GS (cs ++ [y] ++ [x]) := fun i hi => by
  have hl : (cs ++ [y]).length = cs.length + 1 := by simp
  rcases Nat.lt_or_ge i (cs ++ [y]).length with h' | h'
  · have := h i h'
    unfold okB at this ⊢
    rw [getD_left _ _ _ h', getD_left _ _ (i - 1) (by omega)]
    exact this
  · have e : i = (cs ++ [y]).length := by rw [List.length_append] at hi; simp at hi h' ⊢; omega
    subst e
    unfold okB
    rw [getD_last, getD_left _ _ _ (by omega), show (cs ++ [y]).length - 1 = cs.length by omega, getD_last, hx, hn]
    simp
theorem GS.init {cs : List Ch} {x : Ch} (h : GS (cs ++ [x])) : GS cs := fun i hi => by
  have := h i (by simp; omega)
  unfold okB at this ⊢
  rw [getD_left _ _ _ hi, getD_left _ _ (i - 1) (by omega)] at this
  exact this
theorem GS.fit {cs : List Ch} {x : Ch} (h : GS (cs ++ [x])) : fitB x 4096 = true := by
  have := h cs.length (by simp)
  unfold okB at this
  rw [getD_last, Bool.and_eq_true] at this
  exact this.1
theorem GS.next {cs : List Ch} {y x : Ch} (h : GS (cs ++ [y] ++ [x])) : nxB y x = true := by
  have hl : (cs ++ [y]).length = cs.length + 1 := by simp
  have := h (cs ++ [y]).length (by simp)
  unfold okB at this
  rw [getD_last, getD_left _ _ _ (by omega), show (cs ++ [y]).length - 1 = cs.length by omega, getD_last, Bool.and_eq_true, Bool.or_eq_true] at this
  rcases this.2 with h' | h'
  · simp at h'
  · exact h'
/- the last span may be as long as it fits -/
theorem GS.last {cs : List Ch} {x : Ch} {c : Int} (h : GS (cs ++ [x])) (hf : fitB ⟨x.f, c, x.g⟩ 4096 = true) : GS (cs ++ [⟨x.f, c, x.g⟩]) := by
  rcases List.eq_nil_or_concat cs with rfl | ⟨ini, y, rfl⟩
  · exact GS.one hf
  · rw [List.concat_eq_append] at h ⊢
    exact GS.snoc h.init hf (by have := h.next; unfold nxB goB at *; exact this)
structure AI (cs : List Ch) (N : Int) : Prop where
  gs : GS cs
  up : ∀ x ∈ cs, x.l < N
theorem AI.mono {cs : List Ch} {N M : Int} (h : AI cs N) (hm : N ≤ M) : AI cs M := ⟨h.gs, fun x hx => by have := h.up x hx; omega⟩
/- a code goes on where the last span ends -/
theorem add_on {ini : List Ch} {x : Ch} {N c q : Int} (h : AI (ini ++ [x]) N) (hN : N ≤ c) (hp : isP c = true) (q1 : 1 ≤ q) (q2 : q ≤ 4095) (hg : goB x c q = true) :
    addC (ini ++ [x]) c q = some (ini ++ [⟨x.f, c, x.g⟩]) ∧ AI (ini ++ [⟨x.f, c, x.g⟩]) (c + 1) ∧ ∀ c', finV (ini ++ [⟨x.f, c, x.g⟩]) c' = if c' = c then q else finV (ini ++ [x]) c' := by
  have hfx := fitB_t.1 h.gs.fit
  have hgo := goB_t.1 hg
  have hpp := isP_t.1 hp
  have hu : ∀ y ∈ ini, y.l < N := fun y hy => h.up y (List.mem_append_left _ hy)
  refine ⟨addC_go ini x c q (by omega) hg, ⟨h.gs.last (fitB_t.2 (by simp only; omega)), fun y hy => ?_⟩, fun c' => ?_⟩
  · rcases List.mem_append.1 hy with hy | hy
    · have := hu y hy; omega
    · simp at hy; subst hy; simp only; omega
  · rw [finV_app, finV_app]
    by_cases hc : c' = c
    · rw [if_pos hc, hc, hitA_above hu hN]
      simp only [Bool.false_eq_true, if_false, finV]
      have hh : hit ⟨x.f, c, x.g⟩ c = true := by unfold hit; simp; omega
      rw [hh]
      simp only [if_true]
      unfold hitV
      simp only
      rw [if_pos (by omega)]; omega
    · rw [if_neg hc]
      congr 1
      simp only [finV]
      have hh : hit ⟨x.f, c, x.g⟩ c' = hit x c' := by unfold hit; simp only; rw [Bool.eq_iff_iff, decide_eq_true_iff, decide_eq_true_iff]; omega
      rw [hh]
      rfl
/- a code begins a new span -/
theorem add_new {cs : List Ch} {N c q : Int} (h : AI cs N) (hN : N ≤ c) (hp : isP c = true) (q1 : 1 ≤ q) (q2 : q ≤ 4095) (hl : cs.length < 4096) (hg : ∀ ini x, cs = ini ++ [x] → goB x c q = false) :
    addC cs c q = some (cs ++ [⟨c, c, q⟩]) ∧ AI (cs ++ [⟨c, c, q⟩]) (c + 1) ∧ ∀ c', finV (cs ++ [⟨c, c, q⟩]) c' = if c' = c then q else finV cs c' := by
  have hpp := isP_t.1 hp
  have hf : fitB ⟨c, c, q⟩ 4096 = true := fitB_t.2 (by simp only; omega)
  have hup : ∀ y ∈ cs ++ [(⟨c, c, q⟩ : Ch)], y.l < c + 1 := fun y hy => by
    rcases List.mem_append.1 hy with hy | hy
    · have := h.up y hy; omega
    · simp at hy; subst hy; simp only; omega
  have hfin : ∀ c', finV (cs ++ [⟨c, c, q⟩]) c' = if c' = c then q else finV cs c' := fun c' => by
    rw [finV_app]
    by_cases hc : c' = c
    · rw [if_pos hc, hc, hitA_above h.up hN]
      simp only [Bool.false_eq_true, if_false, finV]
      have hh : hit ⟨c, c, q⟩ c = true := by unfold hit; simp
      rw [hh]
      simp only [if_true]
      unfold hitV
      simp only
      rw [if_pos (by omega)]; omega
    · rw [if_neg hc]
      cases hh : hitA cs c'
      · have h2 : hit ⟨c, c, q⟩ c' = false := by unfold hit; simp; omega
        simp only [Bool.false_eq_true, if_false, finV, h2]
        exact (finV_no cs c' hh).symm
      · simp
  rcases List.eq_nil_or_concat cs with rfl | ⟨ini, x, rfl⟩
  · exact ⟨addC_nil c q (by omega), ⟨GS.one hf, hup⟩, hfin⟩
  · rw [List.concat_eq_append] at *
    have hgo := hg ini x rfl
    have hx := h.up x (by simp)
    refine ⟨addC_new ini x c q (by omega) hgo (by simpa using hl), ⟨h.gs.snoc hf ?_, hup⟩, hfin⟩
    unfold nxB
    simp only [hgo, Bool.or_false, Bool.not_eq_true', decide_eq_false_iff_not]
    omega
structure GJ (cs cu : List Ch) (a g j : Nat) : Prop where
  res : grpF a g cs j = some cu
  ai : AI cu ((a : Int) + j)
  len : cu.length ≤ cs.length + 1
  fin : ∀ c, finV cu c = if (a : Int) ≤ c ∧ c < (a : Int) + j ∧ isP c = true then (g : Int) + (c - a) else finV cs c
  ph : cu = cs ∨ (∃ ini x, cu = ini ++ [x] ∧ ini.length ≤ cs.length ∧ x.l = (a : Int) + j - 1 ∧ x.g + x.l - x.f = (g : Int) + j - 1) ∨ (a ≤ 55295 ∧ 55297 ≤ a + j)
theorem fin_step {cs cu cv : List Ch} {a g j : Nat} {c q : Int} (hc : c = (a : Int) + j) (hq : q = (g : Int) + j) (hp : isP c = true)
    (h : ∀ c, finV cu c = if (a : Int) ≤ c ∧ c < (a : Int) + j ∧ isP c = true then (g : Int) + (c - a) else finV cs c) (hv : ∀ c', finV cv c' = if c' = c then q else finV cu c') :
    ∀ c, finV cv c = if (a : Int) ≤ c ∧ c < (a : Int) + ((j + 1 : Nat) : Int) ∧ isP c = true then (g : Int) + (c - a) else finV cs c := fun c' => by
  rw [hv c', h c']
  by_cases e : c' = c
  · rw [if_pos e, if_pos ⟨by omega, by omega, by rw [e]; exact hp⟩]; omega
  · rw [if_neg e]
    by_cases e2 : (a : Int) ≤ c' ∧ c' < (a : Int) + j ∧ isP c' = true
    · rw [if_pos e2, if_pos ⟨e2.1, by omega, e2.2.2⟩]
    · rw [if_neg e2, if_neg (fun e3 => e2 ⟨e3.1, by omega, e3.2.2⟩)]
theorem grp_all {cs : List Ch} {a g cnt : Nat} (h : AI cs (a : Int)) (hl : cs.length < 4096) (ha : a + cnt ≤ 1114112) (hg : g + cnt ≤ 4096) (hc : cnt ≤ 300) : ∀ j, j ≤ cnt → ∃ cu, GJ cs cu a g j := by
  intro j
  induction j with
  | zero => intro _; exact ⟨cs, rfl, by simpa using h, by omega, fun c => by rw [if_neg (by omega)], Or.inl rfl⟩
  | succ j ih =>
    intro hj
    obtain ⟨cu, G⟩ := ih (by omega)
    obtain ⟨c, hcc⟩ : ∃ c : Int, c = (a : Int) + j := ⟨_, rfl⟩
    obtain ⟨q, hq⟩ : ∃ q : Int, q = (g : Int) + j := ⟨_, rfl⟩
    have hstep : grpF a g cs (j + 1) = stP cu c q := by
      rw [grpF, G.res, hcc, hq]; simp
    have hN : AI cu c := by rw [hcc]; exact G.ai
    cases hp : isP c
    · -- no code point: nothing turns
      have hs : stP cu c q = some cu := by unfold stP; rw [hp]; rfl
      have hpp := isP_f.1 hp
      refine ⟨cu, ⟨by rw [hstep, hs], hN.mono (by omega), G.len, fun c' => ?_, ?_⟩⟩
      · rw [G.fin c']
        by_cases e2 : (a : Int) ≤ c' ∧ c' < (a : Int) + j ∧ isP c' = true
        · rw [if_pos e2, if_pos ⟨e2.1, by omega, e2.2.2⟩]
        · rw [if_neg e2, if_neg]
          rintro ⟨e3, e4, e5⟩
          by_cases e6 : c' = c
          · rw [e6, hp] at e5; cases e5
          · exact e2 ⟨e3, by omega, e5⟩
      · rcases G.ph with e | ⟨ini, x, e1, e2, e3, e4⟩ | e
        · exact Or.inl e
        · have hfx := fitB_t.1 ((by rw [e1] at hN; exact hN.gs.fit : fitB x 4096 = true))
          rcases Nat.eq_zero_or_pos j with hj0 | hj0
          · subst hj0
            exact Or.inl (by have := G.res; rw [grpF] at this; cases this; rfl)
          · exact Or.inr (Or.inr (by omega))
        · exact Or.inr (Or.inr (by omega))
    · have hs : stP cu c q = addC cu c q := by unfold stP; rw [hp]; rfl
      have hpp := isP_t.1 hp
      by_cases hq0 : q = 0
      · -- shown by nothing
        have e : addC cu c q = some cu := by rw [hq0]; exact addC_zero cu c
        have hcs : cu = cs := by
          have : j = 0 := by omega
          subst this
          have := G.res; rw [grpF] at this; cases this; rfl
        refine ⟨cu, ⟨by rw [hstep, hs, e], hN.mono (by omega), G.len, fun c' => ?_, Or.inl hcs⟩⟩
        rw [G.fin c']
        by_cases e2 : (a : Int) ≤ c' ∧ c' < (a : Int) + j ∧ isP c' = true
        · rw [if_pos e2, if_pos ⟨e2.1, by omega, e2.2.2⟩]
        · rw [if_neg e2]
          by_cases e6 : c' = c
          · rw [if_pos ⟨by omega, by omega, by rw [e6]; exact hp⟩, e6, finV_no cs c (hitA_above h.up (by omega))]; omega
          · rw [if_neg]
            rintro ⟨e3, e4, e5⟩
            exact e2 ⟨e3, by omega, e5⟩
      · have q1 : 1 ≤ q := by omega
        have q2 : q ≤ 4095 := by omega
        have fin2 : ∀ {cv : List Ch}, (∀ c', finV cv c' = if c' = c then q else finV cu c') → _ := fun {cv} hv => fin_step (cs := cs) (cu := cu) (cv := cv) hcc hq hp G.fin hv
        rcases G.ph with e | ⟨ini, x, e1, e2, e3, e4⟩ | e
        · -- the group's first
          rcases Classical.em (∃ ini x, cu = ini ++ [x] ∧ goB x c q = true) with ⟨ini, x, e1, e2⟩ | hno
          · obtain ⟨r1, r2, r3⟩ := add_on (by rw [← e1]; exact hN) (Int.le_refl c) hp q1 q2 e2
            have hgo := goB_t.1 e2
            have hle : ini.length + 1 = cs.length := by rw [← e, e1]; simp
            refine ⟨_, ⟨by rw [hstep, hs, e1, r1], by rw [show (a : Int) + ((j + 1 : Nat) : Int) = c + 1 by omega]; exact r2, by simp; omega, fin2 (by rw [e1]; exact r3), Or.inr (Or.inl ⟨ini, _, rfl, by omega, by simp only; omega, by simp only; omega⟩)⟩⟩
          · obtain ⟨r1, r2, r3⟩ := add_new hN (Int.le_refl c) hp q1 q2 (by rw [e]; exact hl) (fun ini x ee => by
              cases hb : goB x c q with
              | false => rfl
              | true => exact absurd ⟨ini, x, ee, hb⟩ hno)
            refine ⟨_, ⟨by rw [hstep, hs, r1], by rw [show (a : Int) + ((j + 1 : Nat) : Int) = c + 1 by omega]; exact r2, by rw [e]; simp, fin2 r3, Or.inr (Or.inl ⟨cu, _, rfl, by rw [e]; exact Nat.le_refl _, by simp only; omega, by simp only; omega⟩)⟩⟩
        · have hgo : goB x c q = true := goB_t.2 ⟨by omega, by omega⟩
          obtain ⟨r1, r2, r3⟩ := add_on (by rw [← e1]; exact hN) (Int.le_refl c) hp q1 q2 hgo
          refine ⟨_, ⟨by rw [hstep, hs, e1, r1], by rw [show (a : Int) + ((j + 1 : Nat) : Int) = c + 1 by omega]; exact r2, by simp; omega, fin2 (by rw [e1]; exact r3), Or.inr (Or.inl ⟨ini, _, rfl, e2, by simp only; omega, by simp only; omega⟩)⟩⟩
        · exfalso; omega
/- what groups send a code to -/
def sndV (gs : List Ch) (c : Int) : Int := gs.foldl (fun w x => if x.f ≤ c ∧ c ≤ x.l ∧ (c < 55296 ∨ 57343 < c) then x.g + c - x.f else w) 0
theorem sndV_snoc (gs : List Ch) (x : Ch) (c : Int) : sndV (gs ++ [x]) c = if x.f ≤ c ∧ c ≤ x.l ∧ (c < 55296 ∨ 57343 < c) then x.g + c - x.f else sndV gs c := by
  unfold sndV; rw [List.foldl_append]; rfl
theorem snd_all : ∀ (gs : List Ch) (N : Int), gs.length ≤ 60 → (∀ x ∈ gs, GI x ∧ x.l - x.f ≤ 299 ∧ x.l < N) → (∀ i, i + 1 < gs.length → (gs.getD i c0).l < (gs.getD (i + 1) c0).f) → 0 ≤ N →
    ∃ cs, accL gs [] = some cs ∧ AI cs N ∧ cs.length ≤ gs.length ∧ ∀ c, finV cs c = sndV gs c := by
  intro gs
  obtain ⟨n, hn⟩ : ∃ n, gs.length = n := ⟨_, rfl⟩
  induction n generalizing gs with
  | zero =>
    intro N _ _ _ h0
    obtain rfl := List.eq_nil_of_length_eq_zero hn
    exact ⟨[], rfl, ⟨GS.nil, fun x h => by cases h⟩, by simp, fun c => rfl⟩
  | succ n ihn =>
    rcases List.eq_nil_or_concat gs with rfl | ⟨gs, x, rfl⟩
    · simp at hn
    rw [List.concat_eq_append] at hn ⊢
    have ih := ihn gs (by simpa using hn)
    intro N hl hg hr h0
    have hx := hg x (by simp)
    obtain ⟨⟨g0, g1, g2, g3', g4⟩, g5, g6⟩ := hx
    have hl' : gs.length + 1 ≤ 60 := by simpa using hl
    obtain ⟨cs, h1, h2, h3, h4⟩ := ih x.f (by omega) (fun y hy => by
      have := hg y (List.mem_append_left _ hy)
      refine ⟨this.1, this.2.1, ?_⟩
      obtain ⟨i, hi, rfl⟩ := List.getElem_of_mem hy
      -- each ends ahead of the next one's first
      have up : ∀ d, i + d < gs.length → gs[i].l ≤ (gs.getD (i + d) c0).l := by
        intro d
        induction d with
        | zero => intro hd; rw [List.getD_eq_getElem?_getD, Nat.add_zero, List.getElem?_eq_getElem hi]; simp
        | succ d ihd =>
          intro hd
          have a1 := ihd (by omega)
          have a2 := hr (i + d) (by simp; omega)
          rw [getD_left _ _ _ (by omega), getD_left _ _ _ (by omega)] at a2
          have a3 := hg (gs.getD (i + d + 1) c0) (List.mem_append_left _ (by rw [List.getD_eq_getElem?_getD, List.getElem?_eq_getElem (by omega)]; simp))
          have a4 := a3.1.2.1
          rw [show i + (d + 1) = i + d + 1 by omega]
          omega
      have a1 := up (gs.length - 1 - i) (by omega)
      have a2 := hr (gs.length - 1) (by simp; omega)
      rw [getD_left _ _ _ (by omega), show gs.length - 1 + 1 = gs.length by omega, getD_last] at a2
      rw [show i + (gs.length - 1 - i) = gs.length - 1 by omega] at a1
      omega) (fun i hi => by
      have := hr i (by simp; omega)
      rwa [getD_left _ _ _ (by omega), getD_left _ _ _ (by omega)] at this) (by omega)
    obtain ⟨cu, G⟩ := grp_all (cs := cs) (a := x.f.toNat) (g := x.g.toNat) (cnt := x.l.toNat - x.f.toNat + 1) (by rw [Int.toNat_of_nonneg g0]; exact h2) (by omega) (by omega) (by omega) (by omega) _ (Nat.le_refl _)
    refine ⟨cu, by rw [accL_snoc, h1]; exact G.res, G.ai.mono (by omega), by have := G.len; simp; omega, fun c => ?_⟩
    rw [G.fin c, sndV_snoc, h4 c]
    have e : ((x.f.toNat : Int) ≤ c ∧ c < (x.f.toNat : Int) + ((x.l.toNat - x.f.toNat + 1 : Nat) : Int) ∧ isP c = true) ↔ (x.f ≤ c ∧ c ≤ x.l ∧ (c < 55296 ∨ 57343 < c)) := by
      rw [isP_t]; omega
    by_cases hh : x.f ≤ c ∧ c ≤ x.l ∧ (c < 55296 ∨ 57343 < c)
    · rw [if_pos (e.2 hh), if_pos hh]; omega
    · rw [if_neg (fun k => hh (e.1 k)), if_neg hh]
theorem AI.good {cs : List Ch} {N : Int} (h : AI cs N) (hl : cs.length ≤ 4096) : gooB cs 4096 = true := gooB_iff.2 ⟨hl, h.gs⟩
end Go.Proofs.Ytkmmphpaaahajaa
