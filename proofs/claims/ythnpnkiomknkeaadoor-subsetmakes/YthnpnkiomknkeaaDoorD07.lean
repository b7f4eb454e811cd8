/-
  Joined: S13Y, S13T, S13Q.
-/
import Derived.BigQuiet
import Derived.BigRegion
import Derived.ChangeAlike
import Derived.ChangeArms
import Derived.ChangeSlices
import Derived.Deep.AppendLies
import Derived.Deep.AppendSrc
import Derived.Deep.CutRange
import Derived.Deep.Draws
import Derived.Deep.LoopGhost
import Derived.Deep.QuietTactic
import Derived.Deep.RegionHeld3
import Derived.Deep.RegionLaw
import Derived.Deep.RegionWith
import Derived.Deep.Slices
import Derived.Deep.Strs
import Derived.Deep.Trees
import Derived.Defers
import Derived.Laws.Bits64b
import Derived.Laws.BitsLemmas
import Derived.Laws.BytesArg
import Derived.Laws.Concat
import Derived.Laws.CopyRow
import Derived.Laws.EntriesVeiled
import Derived.Laws.IdiomStrings
import Derived.Laws.OwnMore
import Derived.Laws.Pointers
import Derived.Lib.AppendStr
import Derived.Lib.AppendZeros
import Derived.Lib.BitFns
import Derived.Lib.BufferWrite
import Derived.Lib.MinMax
import Derived.Lib.Mul64
import Derived.Lib.SlBuf
import Derived.Lib.Small
import Derived.Lib.SmallJoins
import Derived.Lib.Strings
import Derived.Lib.Walk
import Derived.Maps.RangeWalk
import Derived.OpenShut
import Derived.Outline
import Derived.OwnWalk
import Derived.ProofKit
import Derived.Recover
import Derived.RegionDies
import Derived.RegionTactic
import Derived.Shelf.Strings.Trim
import Derived.SizedLaws
import Derived.SliceStrings
import Derived.Test.YthnpnkiomknkeaaDoorProg
import Derived.WalkKit
import Derived.WalkMore
import Derived.WalkSmall
import Derived.Test.YthnpnkiomknkeaaDoorC00
import Derived.Test.YthnpnkiomknkeaaDoorC02
import Derived.Test.YthnpnkiomknkeaaDoorC03
import Derived.Test.YthnpnkiomknkeaaDoorC04
import Derived.Test.YthnpnkiomknkeaaDoorC05
import Derived.Test.YthnpnkiomknkeaaDoorC06
import Derived.Test.YthnpnkiomknkeaaDoorC07
import Derived.Test.YthnpnkiomknkeaaDoorC08
import Derived.Test.YthnpnkiomknkeaaDoorC09
import Derived.Test.YthnpnkiomknkeaaDoorC10
import Derived.Test.YthnpnkiomknkeaaDoorC11
import Derived.Test.YthnpnkiomknkeaaDoorC12
import Derived.Test.YthnpnkiomknkeaaDoorC13
import Derived.Test.YthnpnkiomknkeaaDoorC14
import Derived.Test.YthnpnkiomknkeaaDoorC18
import Derived.Test.YthnpnkiomknkeaaDoorC19
import Derived.Test.YthnpnkiomknkeaaDoorC20
import Derived.Test.YthnpnkiomknkeaaDoorC21
import Derived.Test.YthnpnkiomknkeaaDoorC22
import Derived.Test.YthnpnkiomknkeaaDoorC23
import Derived.Test.YthnpnkiomknkeaaDoorC25
import Derived.Test.YthnpnkiomknkeaaDoorC26
import Derived.Test.YthnpnkiomknkeaaDoorC27
import Derived.Test.YthnpnkiomknkeaaDoorC28
import Derived.Test.YthnpnkiomknkeaaDoorC29
import Derived.Test.YthnpnkiomknkeaaDoorD00
import Derived.Test.YthnpnkiomknkeaaDoorC15
import Derived.Test.YthnpnkiomknkeaaDoorC16
import Derived.Test.YthnpnkiomknkeaaDoorD01
import Derived.Test.YthnpnkiomknkeaaDoorD03
import Derived.Test.YthnpnkiomknkeaaDoorD04
import Derived.Test.YthnpnkiomknkeaaDoorD05
namespace Go.Proofs.YthnpnkiomknkeaaDoor.S13
open Go.RowKit Go.Deep Go.Maps Go.Proofs.YthnpnkiomknkeaaDoor.F12
set_option linter.unusedVariables false
set_option linter.unusedSimpArgs false
set_option maxRecDepth 8000 in
set_option maxHeartbeats 2000000 in
theorem rplace_any (a : Option Addr) (n c : Nat) (zs : List Int) (x : Int) (w : World) (hn : zs.length = n) (hb : n ≤ 1000000) (hL : Lst w a zs) :
    Calls Tryd.prog 15 #[.slice a n c, .int .i64 x] w fun e w' => e = .returned (.tuple #[.int .i64 (max (Lib.idxOf zs x) 0), .bool (decide (0 ≤ Lib.idxOf zs x))]) ∧ Below w.heap.size w w' := by
  have hb' : (n : Int) ≤ 1000000 := by omega
  have HL := hide hL
  have HN := hide hn
  have HB := hide hb
  clear hL hn hb
  go_enter Tryd.func15, Tryd.ntmps15
  go_wp2_with fail
  go_loopw [6] (fun vi wr => ∃ i : Nat, vi = .int .i64 (i : Int) ∧ Hid (i ≤ n ∧ (∀ j, j < i → zs.getD j 0 ≠ x) ∧ Below w.heap.size w wr)) (fun vi _ => n - (intOf vi).toNat)
  case atStart => exact ⟨0, rfl, hide ⟨by omega, fun j hj => absurd hj (by omega), Below.refl _ _⟩⟩
  case round =>
    obtain ⟨i, rfl, HV⟩ := hrel
    obtain ⟨hi, hne, hbw⟩ := HV.out
    have hi0 : (0 : Int) ≤ (i : Int) := by omega
    clear HV
    by_cases hlt : i < n
    case neg =>
      obtain rfl : i = n := by omega
      have hlt' : ¬ (i : Int) < (i : Int) := by omega
      have E : Hid (Lib.idxOf zs x = -1) := hide (by
        have := Lib.idxOf_miss zs i x hne
        rwa [List.take_of_length_le (by rw [HN.out]; exact Nat.le_refl _)] at this)
      have HBW := hide hbw
      clear hne hbw hi hlt
      go_wp2_with fail
      go_ret2
      exact ⟨by rw [E.out]; rfl, HBW.out⟩
    case pos =>
      have hlt' : (i : Int) < (n : Int) := by omega
      rcases HL.out.below hbw with hz | ⟨b, o, rfl, hbl, hc⟩
      · have := HN.out; rw [hz] at this; simp at this; omega
      have c0 := hc i (by rw [HN.out]; exact hlt)
      by_cases hx : zs.getD i 0 = x
      · have E : Hid (Lib.idxOf zs x = (i : Int)) := hide (by
          have := Lib.idxOf_hit zs n i x hlt (by rw [HN.out]; exact Nat.le_refl _) hx hne
          rwa [List.take_of_length_le (by rw [HN.out]; exact Nat.le_refl _)] at this)
        have EM : Hid (max (i : Int) 0 = (i : Int) ∧ decide (0 ≤ (i : Int)) = true) := hide ⟨by omega, by simp⟩
        have HBW := hide hbw
        rw [hx] at c0
        have hxx : (x == x) = true := by simp
        clear hne hbw hi hlt hc hx
        go_wp2_with fail
        go_ret2
        exact ⟨by rw [E.out, EM.out.1, EM.out.2]; rfl, HBW.out⟩
      · have HNE : Hid (∀ j, j < i + 1 → zs.getD j 0 ≠ x) := hide fun j hj => by
          by_cases e : j = i
          · rw [e]; exact hx
          · exact hne j (by omega)
        have HBW := hide hbw
        generalize zs.getD i 0 = z at c0 hx
        have hzx : (z == x) = false := by simp [hx]
        clear hne hbw hi hlt hc
        go_wp2_with fail
        go_roundw
        case rel => exact ⟨i + 1, by go_num, hide ⟨by omega, HNE.out, HBW.out⟩⟩
        case measure => simp [intOf]; omega
theorem plV_rise (o : List Bool) (k : Nat) : (plV o k).Pairwise (· < ·) := by
  unfold plV
  exact List.Pairwise.filter _ List.pairwise_lt_range
theorem rise_get {old : List Nat} (h : old.Pairwise (· < ·)) {i j : Nat} (hij : i < j) (hj : j < old.length) : old.getD i 0 < old.getD j 0 := by
  have := (List.pairwise_iff_getElem.1 h) i j (by omega) hj hij
  rw [List.getD_eq_getElem?_getD, List.getD_eq_getElem?_getD, List.getElem?_eq_getElem (by omega), List.getElem?_eq_getElem hj]
  exact this
theorem plV_zeroth {o : List Bool} {n : Nat} (hn : 1 ≤ n) (h : yes o 0 = true) : 0 < (plV o n).length ∧ (plV o n).getD 0 0 = 0 := by
  obtain ⟨m, rfl⟩ : ∃ m, n = m + 1 := ⟨n - 1, by omega⟩
  unfold plV
  rw [List.range_succ_eq_map, List.filter_cons, if_pos h]
  simp
theorem PV_miss {old : List Nat} {k g : Nat} (h : ∀ i, i < k → old.getD i 0 ≠ g) : PV old k g = 0 := by
  induction k with
  | zero => rfl
  | succ k ih =>
    rw [PV, if_neg (fun e => h k (by omega) e.symm)]
    exact ih (fun i hi => h i (by omega))
theorem PV_hit {old : List Nat} (hr : old.Pairwise (· < ·)) {i m g : Nat} (him : i < m) (hm : m ≤ old.length) (h : old.getD i 0 = g) : PV old m g = (i : Int) := by
  induction m with
  | zero => omega
  | succ m ih =>
    rw [PV]
    by_cases e : i = m
    · subst e; rw [if_pos h.symm]
    · have := rise_get hr (show i < m by omega) (show m < old.length by omega)
      rw [if_neg (by omega)]
      exact ih (by omega) (by omega)
theorem pv_idx {old : List Nat} (hr : old.Pairwise (· < ·)) (h0 : 0 < old.length ∧ old.getD 0 0 = 0) {g : Nat} (hg : 1 ≤ g) : max (Lib.idxOf (G10.ints old) (g : Int)) 0 = PV old old.length g ∧ decide (0 ≤ Lib.idxOf (G10.ints old) (g : Int)) = !decide (PV old old.length g = 0) := by
  have hl := G10.ints_len old
  by_cases h : ∃ i, i < old.length ∧ old.getD i 0 = g
  · obtain ⟨i, hi, he⟩ := h
    have e1 := Lib.idxOf_hit (G10.ints old) old.length i (g : Int) hi (by rw [hl]; exact Nat.le_refl _) (by rw [G10.ints_at old i hi, he]) (fun j hj => by
      rw [G10.ints_at old j (by omega)]
      have := rise_get hr hj hi
      omega)
    rw [List.take_of_length_le (by rw [hl]; exact Nat.le_refl _)] at e1
    rw [e1, PV_hit hr hi (Nat.le_refl _) he]
    have : i ≠ 0 := fun e => by rw [e, h0.2] at he; omega
    refine ⟨by omega, ?_⟩
    rw [decide_eq_true (by omega), decide_eq_false (by omega)]
    rfl
  · have h' : ∀ i, i < old.length → old.getD i 0 ≠ g := fun i hi he => h ⟨i, hi, he⟩
    have e1 := Lib.idxOf_miss (G10.ints old) old.length (g : Int) (fun j hj => by
      rw [G10.ints_at old j hj]
      have := h' j hj
      omega)
    rw [List.take_of_length_le (by rw [hl]; exact Nat.le_refl _)] at e1
    rw [e1, PV_miss h']
    exact ⟨rfl, rfl⟩
theorem LQ.c2 {w1 : World} {B pb : Nat} {m : Mt} {va vb vg vc : Value} {la lb : List Int} {lg : List ByteArray} {lc : List C11.Ch} {u : World} (h : LQ w1 B pb m va vb vg vc la lb lg lc u) (f l g : Int) (hl : lc.length ≤ 1000000) :
    ∃ v' w2, (Builtin.append_ #[27, 27] 27 #[vc, .slice (some ⟨u.heap.size, 0, none⟩) 1 1]).run Tryd.prog (u.alloc (.cells #[.int .i64 f, .int .i64 l, .int .i64 g] 70)) = .ok v' w2 ∧ (∃ a n c, v' = .slice a n c) ∧ Blk w2 pb (fcs m va vb vg vc) 29 ∧ LQ w1 B pb m va vb vg v' la lb lg (lc ++ [⟨f, l, g⟩]) (w2.setCell ⟨pb, 12, none⟩ v') ∧
      (v'.ownBlock = vc.ownBlock ∨ ∃ g, v'.ownBlock = some g ∧ u.heap.size ≤ g) ∧ (∀ k, k < u.heap.size → vc.ownBlock ≠ some k → k ≠ pb → (w2.setCell ⟨pb, 12, none⟩ v').heap[k]? = u.heap[k]?) := by
  obtain ⟨v', w2, hr, r1, r6, r3, r5⟩ := app_c2 f l g h.rc h.sz hl
  have ho := fun k hk => (World.ownsRow.lt h.rc k hk).1
  have kb := lq_blk h ho r5
  have h1 := upd1 (j := 12) (z := v') h.hpb (rp_of B _ _ _ _ _) h.ra h.ac.symm r3 r5
  have h2 := upd1 (j := 12) (z := v') h.hpb (rp_of B _ _ _ _ _) h.rb h.bc.symm r3 r5
  have h3 := upd1 (j := 12) (z := v') h.hpb (rp_of B _ _ _ _ _) h.rg h.gc.symm r3 r5
  refine ⟨v', w2, hr, (by obtain ⟨a, c, e, _⟩ := r1.lst; exact ⟨a, _, c, e⟩), kb, ⟨by have := kb.set 12 v'; simpa using this, h.hpb, h.hp1, h1.1, h2.1, h3.1, upd0 h.hpb (rp_of B _ _ _ _ _) r1, h.ab, h.ag, h1.2.symm, h.bg, h2.2.symm, h3.2.symm, ?_, by have := r6.size; have := h.sz; simp [World.setCell]; omega⟩, r3, fun k hk hne hp => ?_⟩
  · exact (h.hb.trans (r6.mono (Nat.le_trans h.hp1 (Nat.le_of_lt h.hpb)))).setCell (p := ⟨pb, 12, none⟩) h.hp1 _
  · rw [Below.heap_setCell _ _ _ _ hp]
    exact r5 k hk hne
theorem LQ.s {w1 : World} {B pb gg n cap : Nat} {m : Mt} {va vb vg : Value} {la lb : List Int} {lg : List ByteArray} {ps : List C11.Ch} {x : C11.Ch} {u : World} (h : LQ w1 B pb m va vb vg (.slice (some ⟨gg, 0, none⟩) n cap) la lb lg (ps ++ [x]) u) (hn : (ps ++ [x]).length = n) (c : Int) :
    LQ w1 B pb m va vb vg (.slice (some ⟨gg, 0, none⟩) n cap) la lb lg (ps ++ [⟨x.f, c, x.g⟩]) (u.setCell ⟨gg, ps.length * 3 + 1, none⟩ (.int .i64 c)) := by
  have ho := World.ownsRow.lt h.rc gg rfl
  have keep : ∀ {v : Value} {e : TypeId} {size k : Nat} {xs : List Value}, u.ownsRow B e size v k xs → Sep v (.slice (some ⟨gg, 0, none⟩) n cap) → (u.setCell ⟨gg, ps.length * 3 + 1, none⟩ (.int .i64 c)).ownsRow B e size v k xs := fun hr hs => row_own hr fun j hj _ => by
    rw [Below.heap_setCell _ _ _ _ (fun e => hs j hj (by rw [e]; rfl))]
  exact ⟨h.kp.other (by have := h.hpb; omega) _ _, h.hpb, h.hp1, keep h.ra h.ac, keep h.rb h.bc, keep h.rg h.gc, h.rc.stored _ _ hn, h.ab, h.ag, h.ac, h.bg, h.bc, h.gc, h.hb.setCell (p := ⟨gg, _, none⟩) (by have := h.hp1; have := h.hpb; show w1.heap.size ≤ gg; omega) _, by simpa [World.setCell] using h.sz⟩
def OkG (m : Mt) (gs : List ByteArray) (cs : List C11.Ch) (old : List Nat) (w : World) (e : Ending) (w' : World) : Prop :=
  (4096 < (chC (PV old old.length) cs cs.length).length ∧ e = .returned (.tuple #[.agg zf, .slice none 0 0, .int .i64 110])) ∨
  ((chC (PV old old.length) cs cs.length).length ≤ 4096 ∧ ∃ vo a1 k1 a2 k2 a3 k3 a4 k4, e = .returned (.tuple #[.agg (fcs { m with lg := true } (.slice a1 old.length k1) (.slice a2 old.length k2) (.slice a3 old.length k3) (.slice a4 (chC (PV old old.length) cs cs.length).length k4)), vo, .int .i64 0]) ∧
    Lst w' a1 (pkV m.ad old) ∧ Lst w' a2 (pkV m.be old) ∧ G10.SLst w' a3 (old.map (rnS gs old)) ∧ C11.CLst w' a4 (chC (PV old old.length) cs cs.length) ∧ IRow w' w.heap.size vo (G10.ints old))
def MkG (m : Mt) (gs : List ByteArray) (cs : List C11.Ch) (zs : List Int) (n : Nat) (w : World) (e : Ending) (w' : World) : Prop := Below w.heap.size w w' ∧
  ((ckV m gs cs ≠ 0 ∧ e = .returned (.tuple #[.agg zf, .slice none 0 0, .int .i64 (ckV m gs cs)])) ∨
   (ckV m gs cs = 0 ∧ usV zs n = none ∧ e = .returned (.tuple #[.agg zf, .slice none 0 0, .int .i64 1])) ∨
   (∃ pss us o, ckV m gs cs = 0 ∧ cpV gs = some pss ∧ usV zs n = some us ∧ Cls pss (0 :: us) n o ∧ OkG m gs cs (plV o n) w e w'))
theorem mkG_of {m : Mt} {gs : List ByteArray} {cs : List C11.Ch} {zs : List Int} {n : Nat} {w : World} {e : Ending} {w' : World} (h : MkR m gs cs zs n w e w') : MkG m gs cs zs n w e w' := by
  obtain ⟨hb, h | h | ⟨pss, us, o, h1, h2, h3, h4, h5⟩⟩ := h
  · exact ⟨hb, Or.inl h⟩
  · exact ⟨hb, Or.inr (Or.inl h)⟩
  · refine ⟨hb, Or.inr (Or.inr ⟨pss, us, o, h1, h2, h3, h4, ?_⟩)⟩
    rcases h5 with h5 | ⟨h6, vo, p, q, g, a, cap, h7, h8⟩
    · exact Or.inl h5
    · exact Or.inr ⟨h6, vo, _, _, _, _, _, _, a, cap, h7, h8⟩
theorem pkV_len (zs : List Int) (old : List Nat) : (pkV zs old).length = old.length := by unfold pkV; simp
def nM : Mt := ⟨0, 0, 0, 0, 0, 0, 0, 0, false, [], []⟩
def MV (m : Mt) (gs : List ByteArray) (cs : List C11.Ch) (zs : List Int) (n : Nat) (mR : Mt) (gR : List ByteArray) (cR : List C11.Ch) (oR : List Int) (er : Int) : Prop :=
  (ckV m gs cs ≠ 0 ∧ mR = nM ∧ gR = [] ∧ cR = [] ∧ oR = [] ∧ er = ckV m gs cs) ∨
  (ckV m gs cs = 0 ∧ usV zs n = none ∧ mR = nM ∧ gR = [] ∧ cR = [] ∧ oR = [] ∧ er = 1) ∨
  (∃ pss us o, ckV m gs cs = 0 ∧ cpV gs = some pss ∧ usV zs n = some us ∧ Cls pss (0 :: us) n o ∧
    ((4096 < (chC (PV (plV o n) (plV o n).length) cs cs.length).length ∧ mR = nM ∧ gR = [] ∧ cR = [] ∧ oR = [] ∧ er = 110) ∨
     ((chC (PV (plV o n) (plV o n).length) cs cs.length).length ≤ 4096 ∧ mR = { m with lg := true, ad := pkV m.ad (plV o n), be := pkV m.be (plV o n) } ∧ gR = (plV o n).map (rnS gs (plV o n)) ∧ cR = chC (PV (plV o n) (plV o n).length) cs cs.length ∧ oR = G10.ints (plV o n) ∧ er = 0)))
theorem MV.uniq {m : Mt} {gs : List ByteArray} {cs : List C11.Ch} {zs : List Int} {n : Nat} {m1 m2 : Mt} {g1 g2 : List ByteArray} {c1 c2 : List C11.Ch} {o1 o2 : List Int} {e1 e2 : Int} (h : MV m gs cs zs n m1 g1 c1 o1 e1) (k : MV m gs cs zs n m2 g2 c2 o2 e2) : m1 = m2 ∧ g1 = g2 ∧ c1 = c2 ∧ o1 = o2 ∧ e1 = e2 := by
  rcases h with ⟨h1, rfl, rfl, rfl, rfl, rfl⟩ | ⟨h1, h2, rfl, rfl, rfl, rfl, rfl⟩ | ⟨pss, us, o, h1, h2, h3, h4, h5⟩
  · rcases k with ⟨_, rfl, rfl, rfl, rfl, rfl⟩ | ⟨k1, _⟩ | ⟨_, _, _, k1, _⟩
    · exact ⟨rfl, rfl, rfl, rfl, rfl⟩
    · exact absurd k1 h1
    · exact absurd k1 h1
  · rcases k with ⟨k1, _⟩ | ⟨_, _, rfl, rfl, rfl, rfl, rfl⟩ | ⟨_, _, _, _, _, k3, _⟩
    · exact absurd h1 k1
    · exact ⟨rfl, rfl, rfl, rfl, rfl⟩
    · rw [h2] at k3; cases k3
  · rcases k with ⟨k1, _⟩ | ⟨_, k2, _⟩ | ⟨pss', us', o', _, k2, k3, k4, k5⟩
    · exact absurd h1 k1
    · rw [h3] at k2; cases k2
    · rw [h2] at k2
      injection k2 with k2
      subst k2
      rw [h3] at k3
      injection k3 with k3
      subst k3
      rw [← h4.uniq k4] at k5
      rcases h5 with ⟨a0, rfl, rfl, rfl, rfl, rfl⟩ | ⟨a0, rfl, rfl, rfl, rfl, rfl⟩
      · rcases k5 with ⟨_, rfl, rfl, rfl, rfl, rfl⟩ | ⟨b0, _⟩
        · exact ⟨rfl, rfl, rfl, rfl, rfl⟩
        · omega
      · rcases k5 with ⟨b0, _⟩ | ⟨_, rfl, rfl, rfl, rfl, rfl⟩
        · omega
        · exact ⟨rfl, rfl, rfl, rfl, rfl⟩
theorem MV.len {m : Mt} {gs : List ByteArray} {cs : List C11.Ch} {zs : List Int} {n : Nat} {mR : Mt} {gR : List ByteArray} {cR : List C11.Ch} {oR : List Int} {er : Int} (h : MV m gs cs zs n mR gR cR oR er) : mR.ad.length ≤ n ∧ mR.be.length ≤ n ∧ gR.length ≤ n ∧ cR.length ≤ 4096 ∧ oR.length ≤ n := by
  rcases h with ⟨_, rfl, rfl, rfl, rfl, _⟩ | ⟨_, _, rfl, rfl, rfl, rfl, _⟩ | ⟨pss, us, o, _, _, _, _, ⟨_, rfl, rfl, rfl, rfl, _⟩ | ⟨h0, rfl, rfl, rfl, rfl, _⟩⟩
  · simp [nM]
  · simp [nM]
  · simp [nM]
  · have := plV_len o n
    refine ⟨?_, ?_, ?_, h0, ?_⟩
    · show (pkV m.ad (plV o n)).length ≤ n
      rw [pkV_len]; exact this
    · show (pkV m.be (plV o n)).length ≤ n
      rw [pkV_len]; exact this
    · rw [List.length_map]; exact this
    · rw [G10.ints_len]; exact this
def MvR (m : Mt) (gs : List ByteArray) (cs : List C11.Ch) (zs : List Int) (n : Nat) (w : World) (e : Ending) (w' : World) : Prop := ∃ mR gR cR oR er a1 k1 a2 k2 a3 k3 a4 k4 a5 k5, e = .returned (.tuple #[.agg (fcs mR (.slice a1 mR.ad.length k1) (.slice a2 mR.be.length k2) (.slice a3 (gR : List ByteArray).length k3) (.slice a4 (cR : List C11.Ch).length k4)), .slice a5 (oR : List Int).length k5, .int .i64 er]) ∧ MV m gs cs zs n mR gR cR oR er ∧
  Lst w' a1 mR.ad ∧ Lst w' a2 mR.be ∧ G10.SLst w' a3 gR ∧ C11.CLst w' a4 cR ∧ Lst w' a5 oR ∧ Below w.heap.size w w'
theorem mv_of {m : Mt} {gs : List ByteArray} {cs : List C11.Ch} {zs : List Int} {n : Nat} {w : World} {e : Ending} {w' : World} (h : MkG m gs cs zs n w e w') : MvR m gs cs zs n w e w' := by
  obtain ⟨hb, ⟨h1, rfl⟩ | ⟨h1, h2, rfl⟩ | ⟨pss, us, o, h1, h2, h3, h4, ⟨h5, rfl⟩ | ⟨h5, vo, a1, k1, a2, k2, a3, k3, a4, k4, rfl, i1, i2, i3, i4, i5⟩⟩⟩ := h
  · exact ⟨nM, [], [], [], _, none, 0, none, 0, none, 0, none, 0, none, 0, rfl, Or.inl ⟨h1, rfl, rfl, rfl, rfl, rfl⟩, Or.inl rfl, Or.inl rfl, Or.inl rfl, Or.inl rfl, Or.inl rfl, hb⟩
  · exact ⟨nM, [], [], [], 1, none, 0, none, 0, none, 0, none, 0, none, 0, rfl, Or.inr (Or.inl ⟨h1, h2, rfl, rfl, rfl, rfl, rfl⟩), Or.inl rfl, Or.inl rfl, Or.inl rfl, Or.inl rfl, Or.inl rfl, hb⟩
  · exact ⟨nM, [], [], [], 110, none, 0, none, 0, none, 0, none, 0, none, 0, rfl, Or.inr (Or.inr ⟨pss, us, o, h1, h2, h3, h4, Or.inl ⟨h5, rfl, rfl, rfl, rfl, rfl⟩⟩), Or.inl rfl, Or.inl rfl, Or.inl rfl, Or.inl rfl, Or.inl rfl, hb⟩
  · obtain ⟨a5, k5, rfl, hl5, _⟩ := i5.lst
    refine ⟨{ m with lg := true, ad := pkV m.ad (plV o n), be := pkV m.be (plV o n) }, (plV o n).map (rnS gs (plV o n)), chC (PV (plV o n) (plV o n).length) cs cs.length, G10.ints (plV o n), 0, a1, k1, a2, k2, a3, k3, a4, k4, a5, k5, ?_, Or.inr (Or.inr ⟨pss, us, o, h1, h2, h3, h4, Or.inr ⟨h5, rfl, rfl, rfl, rfl, rfl⟩⟩), i1, i2, i3, i4, hl5, hb⟩
    simp only [pkV_len, List.length_map]
set_option maxRecDepth 8000 in
set_option maxHeartbeats 16000000 in
theorem rmake_any (m : Mt) (aa ab ga ca ua : Option Addr) (na nb ng nc ka kb kg kc un uc : Nat) (gs : List ByteArray) (cs : List C11.Ch) (zs : List Int) (w : World) (hng : gs.length = ng) (hnc : cs.length = nc) (hma : na ≤ 1000000) (hmb : nb ≤ 1000000) (hmg : ng ≤ 1000000) (hmc : nc ≤ 1000000) (hg2 : ng ≤ 200) (hc2 : nc ≤ 200) (hz : ∀ g ∈ gs, g.size ≤ 1000000) (hM : MIn w m aa na ab nb) (hG : G10.SLst w ga gs) (hC : C11.CLst w ca cs) (hun : zs.length = un) (hum : un ≤ 1000000) (hU : Lst w ua zs) :
    Calls Tryd.prog 13 #[.agg (fcs m (.slice aa na ka) (.slice ab nb kb) (.slice ga ng kg) (.slice ca nc kc)), .slice ua un uc] w (MkG m gs cs zs ng w) := by
  have bw := ((Below.refl w.heap.size w).alloc (Nat.le_refl _) (.cells (fcs m (.slice aa na ka) (.slice ab nb kb) (.slice ga ng kg) (.slice ca nc kc)) 29)).alloc (by simp) (.cells zf 29)
  have k1 := (Blk.new w (fcs m (.slice aa na ka) (.slice ab nb kb) (.slice ga ng kg) (.slice ca nc kc)) 29).below ((Below.refl _ _).alloc (Nat.le_refl _) (.cells zf 29))
  have k2 := Blk.new (w.alloc (.cells (fcs m (.slice aa na ka) (.slice ab nb kb) (.slice ga ng kg) (.slice ca nc kc)) 29)) zf 29
  rw [show (w.alloc (.cells (fcs m (.slice aa na ka) (.slice ab nb kb) (.slice ga ng kg) (.slice ca nc kc)) 29)).heap.size = w.heap.size + 1 by simp] at k2
  obtain ⟨U, hU1⟩ : ∃ U, (w.alloc (.cells (fcs m (.slice aa na ka) (.slice ab nb kb) (.slice ga ng kg) (.slice ca nc kc)) 29)).alloc (.cells zf 29) = U := ⟨_, rfl⟩
  rw [hU1] at bw k1 k2
  have HSZ := hide (show U.heap.size = w.heap.size + 1 + 1 by rw [← hU1]; simp)
  have CC := hide (rclose_any m aa ab ga ca ua na nb ng nc ka kb kg kc un uc gs cs zs U ⟨hM.up, hM.hna, hM.hnb, hM.ma, hM.mb, hM.la.below bw, hM.lb.below bw, hM.xa, hM.xb⟩ hng hnc hma hmb hmg hmc hz (hG.below bw) (hC.below bw) hun hum (hU.below bw))
  have HB1 := hide bw
  have HK1 := hide k1
  have HR1 := hide k2
  have HA1 := hide (hM.la.below bw)
  have HB1' := hide (hM.lb.below bw)
  have HG1 := hide (hG.below bw)
  have HC1 := hide (hC.below bw)
  have HNA := hide hM.hna
  have HNB := hide hM.hnb
  have HNG := hide hng
  have HNC := hide hnc
  have HZ := hide hz
  have HMA := hide hma
  clear hng hnc hma hmb hmg hmc hz hM hG hC hun hum hU bw k1 k2
  simp only [fcs, zf] at hU1
  obtain ⟨r0, r1, r2, r3, r4, r5, r6, r7, r8, r9, r10, r11, r12, z0, z1, z2, z3, z4, z5, z6, z7, z8, z9, z10, z11, z12, rlt⟩ := blk13 HK1.out
  go_enter Tryd.func13, Tryd.ntmps13
  go_wp2_with fail
  refine CC.out.mono ?_
  rintro e w1 ⟨h1, hcase⟩
  clear hU1 CC r0 r1 r2 r3 r4 r5 r6 r7 r8 r9 r10 r11 r12 z0 z1 z2 z3 z4 z5 z6 z7 z8 z9 z10 z11 z12 rlt
  have HB2 := hide (below_t5 HB1.out h1)
  have HK2 := hide (HK1.out.below h1)
  have HR2 := hide (HR1.out.below h1)
  have HUZ := hide h1.size
  have HA2 := hide (HA1.out.below h1)
  have HB2' := hide (HB1'.out.below h1)
  have HG2 := hide (HG1.out.below h1)
  have HC2 := hide (HC1.out.below h1)
  obtain ⟨R, hRR⟩ : ∃ R, w.heap.size + 1 = R := ⟨_, rfl⟩
  rw [hRR] at HR2 HSZ ⊢
  have HRW := hide hRR
  have HERR : Hid (∀ (z : Int) (Z : World), But R w1 Z → Below w.heap.size w Z) := hide fun z Z hb => hb.below HB2.out (by omega)
  clear HB1 HK1 HR1 HA1 HB1' HG1 HC1 h1 hRR
  have hc2 : (∃ z : Int, z ≠ 0 ∧ e = .returned (.tuple #[.slice none 0 0, .int .i64 z]) ∧ ∀ Z, Below w.heap.size w Z → MkG m gs cs zs ng w (.returned (.tuple #[.agg zf, .slice none 0 0, .int .i64 z])) Z) ∨ (∃ pss us o v, ckV m gs cs = 0 ∧ cpV gs = some pss ∧ usV zs ng = some us ∧ Cls pss (0 :: us) ng o ∧ e = .returned (.tuple #[v, .int .i64 0]) ∧ IRow w1 U.heap.size v (G10.ints (plV o ng))) := by
    rcases hcase with ⟨h1, h2⟩ | ⟨h1, h2, h3⟩ | h
    · exact Or.inl ⟨_, h1, h2, fun Z hZ => ⟨hZ, Or.inl ⟨h1, rfl⟩⟩⟩
    · exact Or.inl ⟨1, by decide, h3, fun Z hZ => ⟨hZ, Or.inr (Or.inl ⟨h1, h2, rfl⟩)⟩⟩
    · exact Or.inr h
  clear hcase
  rcases hc2 with ⟨z, hz, rfl, hfin⟩ | ⟨pss, us, o, v, hck, hcp, hus, hcl, rfl, hiv⟩
  · have hz1 : (z == 0) = false := by simp [hz]
    have HFN := hide hfin
    clear hfin
    obtain ⟨r0, r1, r2, r3, r4, r5, r6, r7, r8, r9, r10, r11, r12, z0, z1, z2, z3, z4, z5, z6, z7, z8, z9, z10, z11, z12, rlt⟩ := blk13 (show Blk w1 R #[.int .i64 0, .int .i64 0, .int .i64 0, .int .i64 0, .int .i64 0, .int .i64 0, .int .i64 0, .int .i64 0, .bool false, .slice none 0 0, .slice none 0 0, .slice none 0 0, .slice none 0 0] 29 from HR2.out)
    go_wp2_with fail
    have hst := store13g (show Blk w1 R #[.int .i64 0, .int .i64 0, .int .i64 0, .int .i64 0, .int .i64 0, .int .i64 0, .int .i64 0, .int .i64 0, .bool false, .slice none 0 0, .slice none 0 0, .slice none 0 0, .slice none 0 0] 29 from HR2.out) (.int .i64 0) (.int .i64 0) (.int .i64 0) (.int .i64 0) (.int .i64 0) (.int .i64 0) (.int .i64 0) (.int .i64 0) (.bool false) (.slice none 0 0) (.slice none 0 0) (.slice none 0 0) (.slice none 0 0)
    generalize (((((((((((((w1.setCell ⟨R, 0, none⟩ (.int .i64 0)).setCell ⟨R, 1, none⟩ (.int .i64 0)).setCell ⟨R, 2, none⟩ (.int .i64 0)).setCell ⟨R, 3, none⟩ (.int .i64 0)).setCell ⟨R, 4, none⟩ (.int .i64 0)).setCell ⟨R, 5, none⟩ (.int .i64 0)).setCell ⟨R, 6, none⟩ (.int .i64 0)).setCell ⟨R, 7, none⟩ (.int .i64 0)).setCell ⟨R, 8, none⟩ (.bool false)).setCell ⟨R, 9, none⟩ (.slice none 0 0)).setCell ⟨R, 10, none⟩ (.slice none 0 0)).setCell ⟨R, 11, none⟩ (.slice none 0 0)).setCell ⟨R, 12, none⟩ (.slice none 0 0)) = ZW at hst ⊢
    have HE := hide (HFN.out ZW (HERR.out 0 ZW hst.2))
    clear r0 r1 r2 r3 r4 r5 r6 r7 r8 r9 r10 r11 r12 z0 z1 z2 z3 z4 z5 z6 z7 z8 z9 z10 z11 z12 rlt
    obtain ⟨q0, q1, q2, q3, q4, q5, q6, q7, q8, q9, q10, q11, q12, _⟩ := blk13 hst.1
    exact bodyPost_ret (v := .tuple #[.agg zf, .slice none 0 0, .int .i64 z]) (by simp [results, Tryd.results13, go_sem, zf, q0, q1, q2, q3, q4, q5, q6, q7, q8, q9, q10, q11, q12]) rfl HE.out
  · obtain ⟨⟨hn1, hn4⟩, _, _, _, hgd, hlm, hgoo⟩ := ck_in hck
    rw [HNG.out] at hn1 hn4 hlm hgoo
    have HNAB : Hid (m.ad.length = ng ∧ na = ng ∧ m.be.length = ng ∧ nb = ng) := hide (by have h1 := (good_in hgd).2.2.2.2.1; have h2 := HNA.out; have h3 := HNB.out; omega)
    clear hgd
    obtain ⟨old, hold⟩ : ∃ old, plV o ng = old := ⟨_, rfl⟩
    have HFN : Hid (∀ (e : Ending) (Z : World), Below w.heap.size w Z → OkG m gs cs old w e Z → MkG m gs cs zs ng w e Z) := hide fun e Z hb hk => ⟨hb, Or.inr (Or.inr ⟨pss, us, o, hck, hcp, hus, hcl, by rw [hold]; exact hk⟩)⟩
    have holt : ∀ p ∈ old, p < ng := fun p hp => by rw [← hold] at hp; exact plV_lt hp
    have hole : old.length ≤ ng := by rw [← hold]; exact plV_len o ng
    rw [hold] at hiv
    obtain ⟨oa, oc, rfl, hol, hoc, hoc2⟩ := hiv.lst
    rw [G10.ints_len] at hiv hoc ⊢
    obtain ⟨on, hon⟩ : ∃ on, old.length = on := ⟨_, rfl⟩
    rw [hon] at hiv hole hoc ⊢
    obtain ⟨r0, r1, r2, r3, r4, r5, r6, r7, r8, r9, r10, r11, r12, z0, z1, z2, z3, z4, z5, z6, z7, z8, z9, z10, z11, z12, rlt⟩ := blk13 HK2.out
    have HRS : Hid (old.Pairwise (· < ·) ∧ 0 < old.length ∧ old.getD 0 0 = 0) := hide (by rw [← hold]; exact ⟨plV_rise o ng, plV_zeroth hn1 ((hcl.iff 0 (by omega)).2 (rch_seed (by simp)))⟩)
    have HFT := hide (fun i hi => fit_of hgoo (i := i) hi)
    have HON := hide hon
    have HOI := hide hiv
    have HOL := hide hol
    have HOLT := hide holt
    have HN4 := hide hn4
    have HLM := hide hlm
    have HGO := hide hgoo
    have HOC := hide (And.intro hoc hoc2)
    have HG2B := hide (And.intro hg2 hc2)
    have hn4' : (ng : Int) ≤ 4096 := by omega
    have ho4' : (on : Int) ≤ 4096 := by omega
    have HOE := hide hole
    clear hck hcp hus hcl hiv hgoo hlm hold hol holt hole hon hn1 hn4 o pss us HERR hoc hoc2
    have kp := Blk.new w1 (fcs { m with lg := true } (.slice none 0 0) (.slice none 0 0) (.slice none 0 0) (.slice none 0 0)) 29
    have bV := (Below.refl w1.heap.size w1).alloc (Nat.le_refl _) (.cells (fcs { m with lg := true } (.slice none 0 0) (.slice none 0 0) (.slice none 0 0) (.slice none 0 0)) 29)
    obtain ⟨V, hV⟩ : ∃ V, w1.alloc (.cells (fcs { m with lg := true } (.slice none 0 0) (.slice none 0 0) (.slice none 0 0) (.slice none 0 0)) 29) = V := ⟨_, rfl⟩
    rw [hV] at kp bV
    simp only [fcs] at hV
    have KP := hide kp
    have HBV := hide bV
    clear kp bV
    obtain ⟨pb, hpbE⟩ : ∃ pb, w1.heap.size = pb := ⟨_, rfl⟩
    have hpv : pb < V.heap.size := by rw [← hpbE]; exact KP.out.lt
    rw [hpbE] at KP
    go_wp2_with fail
    clear hV r0 r1 r2 r3 r4 r5 r6 r7 r8 r9 r10 r11 r12 z0 z1 z2 z3 z4 z5 z6 z7 z8 z9 z10 z11 z12 rlt
    obtain ⟨B, hB⟩ : ∃ B, V.heap.size = B := ⟨_, rfl⟩
    rw [hB] at hpv
    have HL0 : Hid (LQ w1 B pb { m with lg := true } (.slice none 0 0) (.slice none 0 0) (.slice none 0 0) (.slice none 0 0) [] [] [] [] V) := hide ⟨KP.out, hpv, by omega, IRow.nil _ _, IRow.nil _ _, TRow.nil _ _, C11.CRow.nil _ _, Sep.nil _, Sep.nil _, Sep.nil _, Sep.nil _, Sep.nil _, Sep.nil _, HBV.out, by omega⟩
    have HPB0 := hide (And.intro hpbE (And.intro hpv hB))
    clear hpbE hpv hB KP HBV
    go_loopw [10] (fun vi wr => ∃ k : Nat, vi = .int .i64 (k : Int) ∧ Hid (k ≤ on ∧ ∃ va vb vg vc, LQ w1 B pb { m with lg := true } va vb vg vc (pkV m.ad (old.take k)) (pkV m.be (old.take k)) ((old.take k).map (rnS gs old)) [] wr)) (fun vi _ => on - (intOf vi).toNat)
    case atStart => exact ⟨0, rfl, hide ⟨by omega, _, _, _, _, HL0.out⟩⟩
    case round =>
      clear HL0
      obtain ⟨k, rfl, HV⟩ := hrel
      obtain ⟨hk, va, vb, vg, vc, hl⟩ := HV.out
      have hk0 : (0 : Int) ≤ (k : Int) := by omega
      clear HV
      by_cases hlt : k < on
      case pos =>
        have hlt' : (k : Int) < (on : Int) := by omega
        have hko : k < old.length := by rw [HON.out]; exact hlt
        have hgm : old.getD k 0 ∈ old := by
          rw [List.getD_eq_getElem?_getD, List.getElem?_eq_getElem hko]
          exact List.getElem_mem _
        have hgn := HOLT.out _ hgm
        have S1 := hide (pk_snoc m.ad old k hko)
        have S2 := hide (pk_snoc m.be old k hko)
        have S3 := hide (rn_snoc (rnS gs old) old k hko)
        have hl1 : (pkV m.ad (old.take k)).length ≤ 1000000 := by unfold pkV; rw [List.length_map, List.length_take]; omega
        have hl2 : (pkV m.be (old.take k)).length ≤ 1000000 := by unfold pkV; rw [List.length_map, List.length_take]; omega
        have hl3 : ((old.take k).map (rnS gs old)).length ≤ 1000000 := by rw [List.length_map, List.length_take]; omega
        have H123 := hide (And.intro hl1 (And.intro hl2 hl3))
        have hgz : (gs.getD (old.getD k 0) ⟨#[]⟩).size ≤ 1000000 := HZ.out _ (by
          rw [List.getD_eq_getElem?_getD, List.getElem?_eq_getElem (by rw [HNG.out]; exact hgn)]; exact List.getElem_mem _)
        -- what lies where, in every world that keeps what lay ahead
        have HRD : Hid (∃ ob oo aB aO bB bO sB sO, oa = some ⟨ob, oo, none⟩ ∧ aa = some ⟨aB, aO, none⟩ ∧ ab = some ⟨bB, bO, none⟩ ∧ ga = some ⟨sB, sO, none⟩ ∧ ∀ u, Below w1.heap.size w1 u → (ob < u.heap.size ∧ u.cell? ⟨ob, oo + k, none⟩ = some (.int .i64 ((old.getD k 0 : Nat) : Int)) ∧ aB < u.heap.size ∧ u.cell? ⟨aB, aO + old.getD k 0, none⟩ = some (.int .i64 (m.ad.getD (old.getD k 0) 0)) ∧ bB < u.heap.size ∧ u.cell? ⟨bB, bO + old.getD k 0, none⟩ = some (.int .i64 (m.be.getD (old.getD k 0) 0)) ∧ sB < u.heap.size ∧ u.cell? ⟨sB, sO + old.getD k 0, none⟩ = some (.string (gs.getD (old.getD k 0) ⟨#[]⟩))) ∧ (w.heap.size < u.heap.size ∧ u.cell? ⟨w.heap.size, 9, none⟩ = some (.slice (some ⟨aB, aO, none⟩) na ka) ∧ u.cell? ⟨w.heap.size, 10, none⟩ = some (.slice (some ⟨bB, bO, none⟩) nb kb) ∧ u.cell? ⟨w.heap.size, 11, none⟩ = some (.slice (some ⟨sB, sO, none⟩) ng kg) ∧ u.cell? ⟨w.heap.size, 12, none⟩ = some (.slice ca nc kc))) := hide (by
          obtain ⟨ob, oo, h1, h2, h3⟩ := ints_cell HOL.out hko
          have hna := HNAB.out
          rcases HA2.out with hz | ⟨aB, aO, h4, h5, h6⟩
          · rw [hz] at hna; simp at hna; omega
          rcases HB2'.out with hz | ⟨bB, bO, h7, h8, h9⟩
          · rw [hz] at hna; simp at hna; omega
          rcases HG2.out with hz | ⟨sB, sO, h10, h11, h12⟩
          · have := HNG.out; rw [hz] at this; simp at this; omega
          subst h1 h4 h7 h10
          have h6 := h6 (old.getD k 0) (by omega)
          have h9 := h9 (old.getD k 0) (by omega)
          have h12 := h12 (old.getD k 0) (by rw [HNG.out]; exact hgn)
          refine ⟨ob, oo, aB, aO, bB, bO, sB, sO, rfl, rfl, rfl, rfl, fun u hu => ⟨⟨Nat.lt_of_lt_of_le h2 hu.size, (hu.cell (p := ⟨ob, _, none⟩) h2).trans h3, Nat.lt_of_lt_of_le h5 hu.size, (hu.cell (p := ⟨aB, _, none⟩) h5).trans h6, Nat.lt_of_lt_of_le h8 hu.size, (hu.cell (p := ⟨bB, _, none⟩) h8).trans h9, Nat.lt_of_lt_of_le h11 hu.size, (hu.cell (p := ⟨sB, _, none⟩) h11).trans h12⟩, ?_⟩⟩
          have kf := HK2.out.below hu
          exact ⟨kf.lt, by simpa using kf.cell 9, by simpa using kf.cell 10, by simpa using kf.cell 11, by simpa using kf.cell 12⟩)
        obtain ⟨ob, oo, aB, aO, bB, bO, sB, sO, rfl, rfl, rfl, rfl, hrd⟩ := HRD.out
        clear HRD
        have HRD := hide hrd
        clear hrd hgm hl1 hl2 hl3
        have HGN := hide hgn
        have HNW : Hid (∀ x, x = old.getD k 0 → x < ng ∧ x < na ∧ x < nb) := hide fun x hx => by have := HNAB.out; omega
        obtain ⟨A, hA⟩ : ∃ A, m.ad.getD (old.getD k 0) 0 = A := ⟨_, rfl⟩
        obtain ⟨Bv, hBv⟩ : ∃ A, m.be.getD (old.getD k 0) 0 = A := ⟨_, rfl⟩
        obtain ⟨gstr, hgstr⟩ : ∃ A, gs.getD (old.getD k 0) ⟨#[]⟩ = A := ⟨_, rfl⟩
        rw [hA] at HRD S1
        rw [hBv] at HRD S2
        rw [hgstr] at HRD hgz
        have HGS : Hid (∀ u, Below w1.heap.size w1 u → Calls Tryd.prog 28 #[.string gstr, .slice (some ⟨ob, oo, none⟩) on oc] u fun e y => ∃ er : Int, e = .returned (.tuple #[.string (rnS gs old (old.getD k 0)), .int .i64 er]) ∧ Below u.heap.size u y) := hide fun u hu =>
          (G10.rrenum_any gstr _ on oc (G10.ints old) u hgz (by rw [G10.ints_len]; exact HON.out) (by omega) (HOL.out.below hu)).mono fun e y h => by
            unfold G10.RnR at h
            unfold rnS
            rw [hgstr]
            cases hr : G10.renV gstr.data.toList (G10.ints old) (G10.shV gstr.data.toList) with
            | none => rw [hr] at h; exact ⟨100, h⟩
            | some l => rw [hr] at h; exact ⟨0, h⟩
        generalize rnS gs old (old.getD k 0) = rs at S3 HGS
        clear hA hBv hgstr
        generalize old.getD k 0 = gk at HRD HNW hgn
        obtain ⟨hn1, hn2, hn3⟩ : gk < ng ∧ gk < na ∧ gk < nb := HNW.out gk (by first | rfl | trivial)
        have hgn' : (gk : Int) < (ng : Int) := by omega
        have hg0 : (0 : Int) ≤ (gk : Int) := by omega
        have hgna : (gk : Int) < (na : Int) := by omega
        have hgnb : (gk : Int) < (nb : Int) := by omega
        clear HNW HGN hgz hn1 hn2 hn3 hgn hko
        obtain ⟨⟨f1, f2, f3, f4, f5, f6, f7, f8⟩, f9, f10, f11, f12, f13⟩ := HRD.out wr hl.hb
        obtain ⟨v1, w2, hr, ⟨va1, vn1, vc1, rfl⟩, kb2, hq1⟩ := (hl.below (Below.refl _ _).drew).a A H123.out.1
        rw [← S1.out] at hq1
        have HR : Hid ((Builtin.append_ #[23, 23] 23 #[va, .slice (some ⟨wr.heap.size, 0, none⟩) 1 1]).run Tryd.prog (wr.alloc (.cells #[.int .i64 A] 3)).drew = .ok (.slice va1 vn1 vc1) w2) := hide hr
        have HQ := hide (show w2.cell? ⟨pb, 9, none⟩ = some va ∧ w2.frozen? ⟨pb, 9, none⟩ = false ∧ pb < w2.heap.size from ⟨by simpa using kb2.cell 9, kb2.frozen 9, kb2.lt⟩)
        have HQ1 := hide hq1
        have p9 := hl.kp.cell 9
        simp at p9
        have plt := hl.kp.lt
        have HLQ := hide hl
        clear hr kb2 hq1 hl hk hlt
        go_upto_region 10 with (fail)
        go_cut [] from 38 to 94 (fun wc => Hid (∃ v', LQ w1 B pb { m with lg := true } v' vb vg vc (pkV m.ad (old.take (k + 1))) (pkV m.be (old.take k)) ((old.take k).map (rnS gs old)) [] wc))
        case first =>
          go_region_law ((refine step_append_run _ (by rfl) _ _ _ _ rfl _ _ (by rfl) (by rfl) _ _ HR.out ?_; clear p9 plt; obtain ⟨p9, z9, plt⟩ := HQ.out))
          all_goals
            go_wp2_with fail
            go_meet
            exact hide ⟨_, HQ1.out⟩
        case rest =>
          clear HR HQ HQ1 p9 plt f1 f2 f3 f4 f5 f6 f7 f8 f9 f10 f11 f12 f13 HLQ
          obtain ⟨va', hl⟩ := hcut.out
          clear hcut
          obtain ⟨⟨f1, f2, f3, f4, f5, f6, f7, f8⟩, f9, f10, f11, f12, f13⟩ := HRD.out wc hl.hb
          obtain ⟨v1, w2, hr, ⟨va1, vn1, vc1, rfl⟩, kb2, hq1⟩ := (hl.below (Below.refl _ _).drew).b Bv H123.out.2.1
          rw [← S2.out] at hq1
          have HR : Hid ((Builtin.append_ #[23, 23] 23 #[vb, .slice (some ⟨wc.heap.size, 0, none⟩) 1 1]).run Tryd.prog (wc.alloc (.cells #[.int .i64 Bv] 3)).drew = .ok (.slice va1 vn1 vc1) w2) := hide hr
          have HQ := hide (show w2.cell? ⟨pb, 10, none⟩ = some vb ∧ w2.frozen? ⟨pb, 10, none⟩ = false ∧ pb < w2.heap.size from ⟨by simpa using kb2.cell 10, kb2.frozen 10, kb2.lt⟩)
          have HQ1 := hide hq1
          have p9 := hl.kp.cell 10
          simp at p9
          have plt := hl.kp.lt
          clear hr kb2 hq1 hl
          go_upto_region 11 with (fail)
          go_cut [] from 38 to 94 (fun wc => Hid (∃ v', LQ w1 B pb { m with lg := true } va' v' vg vc (pkV m.ad (old.take (k + 1))) (pkV m.be (old.take (k + 1))) ((old.take k).map (rnS gs old)) [] wc))
          case first =>
            go_region_law ((refine step_append_run _ (by rfl) _ _ _ _ rfl _ _ (by rfl) (by rfl) _ _ HR.out ?_; clear p9 plt; obtain ⟨p9, z9, plt⟩ := HQ.out))
            all_goals
              go_wp2_with fail
              go_meet
              exact hide ⟨_, HQ1.out⟩
          case rest =>
            clear HR HQ HQ1 p9 plt f1 f2 f3 f4 f5 f6 f7 f8 f9 f10 f11 f12 f13
            obtain ⟨vb', hl⟩ := hcut.out
            clear hcut
            obtain ⟨⟨f1, f2, f3, f4, f5, f6, f7, f8⟩, f9, f10, f11, f12, f13⟩ := HRD.out wc hl.hb
            have HLQ := hide hl
            have HBL := hide hl.hb
            clear hl
            go_upto_region 12 with (fail)
            go_cut [11] from 38 to 94 (fun s11 wc => Hid (s11 = .string rs ∧ LQ w1 B pb { m with lg := true } va' vb' vg vc (pkV m.ad (old.take (k + 1))) (pkV m.be (old.take (k + 1))) ((old.take k).map (rnS gs old)) [] wc))
            case first =>
              go_region_with ((go_at_call 28; refine (HGS.out _ (by repeat (first | exact HBL.out | refine bdr ?_))).mono ?_; rintro e y ⟨er, rfl, hy⟩; have HY := hide (show Below wc.heap.size wc y from below_t5 (by repeat (first | exact Below.refl _ _ | refine bdr ?_)) hy); clear hy))
              all_goals
                go_wp2_with fail
                go_meet
                exact hide ⟨rfl, HLQ.out.below HY.out⟩
            case rest =>
              clear HLQ HBL f1 f2 f3 f4 f5 f6 f7 f8 f9 f10 f11 f12 f13
              obtain ⟨rfl, hl⟩ := hcut.out
              clear hcut
              obtain ⟨v1, w2, hr, ⟨va1, vn1, vc1, rfl⟩, kb2, hq1⟩ := hl.g rs H123.out.2.2
              rw [← S3.out] at hq1
              have HR := hide hr
              have HQ := hide (show w2.cell? ⟨pb, 11, none⟩ = some vg ∧ w2.frozen? ⟨pb, 11, none⟩ = false ∧ pb < w2.heap.size from ⟨by simpa using kb2.cell 11, kb2.frozen 11, kb2.lt⟩)
              have HQ1 := hide hq1
              have p9 := hl.kp.cell 11
              simp at p9
              have plt := hl.kp.lt
              clear hr kb2 hq1 hl
              go_wp2_with (at_builtin; refine Lib.wpList_append_run _ rfl _ _ _ _ rfl _ _ rfl rfl _ _ HR.out ?_; clear p9 plt; obtain ⟨p9, z9, plt⟩ := HQ.out)
              go_roundw
              case rel => exact ⟨k + 1, by go_num, hide ⟨by omega, _, _, _, _, HQ1.out⟩⟩
              case measure => simp [intOf]; omega
      case neg =>
        obtain rfl : k = on := by omega
        have hlt' : ¬ (k : Int) < (k : Int) := by omega
        rw [show old.take k = old from List.take_of_length_le (by rw [HON.out]; exact Nat.le_refl _)] at hl
        obtain ⟨P, hP⟩ : ∃ P, PV old k = P := ⟨_, rfl⟩
        have HPE := hide hP
        have HPI : Hid (∀ g : Nat, 1 ≤ g → max (Lib.idxOf (G10.ints old) (g : Int)) 0 = P g ∧ decide (0 ≤ Lib.idxOf (G10.ints old) (g : Int)) = !decide (P g = 0)) := hide fun g hg => by
          have := pv_idx HRS.out.1 HRS.out.2 hg
          rwa [HON.out, hP] at this
        have HPB : Hid (∀ g, 0 ≤ P g ∧ P g ≤ 4096) := hide fun g => by
          have := PV_bd old k g
          rw [hP] at this
          have := HOE.out
          have := HN4.out
          omega
        clear hP
        have HI0 := hide hl
        have kf := HK2.out.below hl.hb
        have f12 := kf.cell 12
        simp at f12
        have flt := kf.lt
        clear kf hl hk hlt
        go_wp2_with fail
        clear f12 flt
        go_loopw [13] (fun vi wr => ∃ i : Nat, vi = .int .i64 (i : Int) ∧ Hid (i ≤ nc ∧ (chC P cs i).length ≤ i * 200 ∧ SC (chC P cs i) ∧ ∃ va vb vg vc, LQ w1 B pb { m with lg := true } va vb vg vc (pkV m.ad old) (pkV m.be old) (old.map (rnS gs old)) (chC P cs i) wr)) (fun vi _ => nc - (intOf vi).toNat)
        case atStart => exact ⟨0, rfl, hide ⟨by omega, by simp [chC], fun x hx => by simp [chC] at hx, va, vb, vg, vc, HI0.out⟩⟩
        case round =>
          clear HI0
          obtain ⟨i, rfl, HV⟩ := hrel
          obtain ⟨hi, hL2, hSC, va, vb, vg, vc, hl⟩ := HV.out
          have hi0 : (0 : Int) ≤ (i : Int) := by omega
          clear HV
          have kf := HK2.out.below hl.hb
          have f12 := kf.cell 12
          simp at f12
          have flt := kf.lt
          clear kf
          by_cases hlt : i < nc
          case neg =>
            obtain rfl : i = nc := by omega
            have hlt' : ¬ (i : Int) < (i : Int) := by omega
            have HLL : Hid (chC (PV old old.length) cs cs.length = chC P cs i) := hide (by rw [HON.out, HNC.out, HPE.out])
            generalize chC P cs i = LL at hl hSC hL2 HLL
            obtain ⟨ca2, cap2, rfl⟩ := crow_slice hl.rc
            obtain ⟨ga2, gcap, rfl, _⟩ := hl.rg.lst
            obtain ⟨va2, vcap, rfl, _⟩ := hl.ra.lst
            obtain ⟨vb2, bcap, rfl, _⟩ := hl.rb.lst
            obtain ⟨ln, hln⟩ : ∃ n, LL.length = n := ⟨_, rfl⟩
            have HLN := hide hln
            have e1 := pkV_len m.ad old
            have e2 := pkV_len m.be old
            have e3 : (old.map (rnS gs old)).length = old.length := by simp
            rw [HON.out] at e1 e2 e3
            rw [e1, e2, e3, hln] at hl
            have HLQ := hide hl
            have hln' : (ln : Int) ≤ 40000 := by have := HG2B.out.2; omega
            have HRQ := hide (show Blk wr R #[.int .i64 0, .int .i64 0, .int .i64 0, .int .i64 0, .int .i64 0, .int .i64 0, .int .i64 0, .int .i64 0, .bool false, .slice none 0 0, .slice none 0 0, .slice none 0 0, .slice none 0 0] 29 from HR2.out.below hl.hb)
            have HBW : Hid (∀ Z, But R wr Z → Below w.heap.size w Z) := hide fun Z hZ => hZ.below (below_t5 HB2.out hl.hb) (by have := HRW.out; omega)
            have HKP := hide hl.kp
            clear hl hi hlt hL2 hSC hln e1 e2 e3
            obtain ⟨r0, r1, r2, r3, r4, r5, r6, r7, r8, r9, r10, r11, r12, z0, z1, z2, z3, z4, z5, z6, z7, z8, z9, z10, z11, z12, rlt⟩ := blk13 HRQ.out
            obtain ⟨s0, s1, s2, s3, s4, s5, s6, s7, s8, s9, s10, s11, s12, t0, t1, t2, t3, t4, t5, t6, t7, t8, t9, t10, t11, t12, slt⟩ := blk13 HKP.out
            by_cases h4 : ln ≤ 4096
            · have h4' : ¬ (4096 : Int) < (ln : Int) := by omega
              have HFIN : Hid (∀ Z, But R wr Z → OkG m gs cs old w (.returned (.tuple #[.agg (fcs { m with lg := true } (.slice va2 k vcap) (.slice vb2 k bcap) (.slice ga2 k gcap) (.slice ca2 ln cap2)), .slice oa k oc, .int .i64 0])) Z) := hide fun Z hZ => by
                have hl := HLQ.out
                have hRB : ∀ j, B ≤ j → j ≠ R := fun j hj => by
                  have := HPB0.out
                  have := HSZ.out
                  have := HUZ.out
                  omega
                have kept : ∀ {v : Value} {e : TypeId} {size n : Nat} {xs : List Value}, wr.ownsRow B e size v n xs → Z.ownsRow B e size v n xs := fun hr => row_own hr fun j hj hjl => hZ.block j hjl (hRB j (World.ownsRow.lt hr j hj).1)
                have i1 : IRow Z B (.slice va2 k vcap) (pkV m.ad old) := kept hl.ra
                have i2 : IRow Z B (.slice vb2 k bcap) (pkV m.be old) := kept hl.rb
                have i3 : TRow Z B (.slice ga2 k gcap) (old.map (rnS gs old)) := kept hl.rg
                have i4 : C11.CRow Z B (.slice ca2 ln cap2) LL := kept hl.rc
                refine Or.inr ⟨by rw [HLL.out, HLN.out]; exact h4, .slice oa k oc, va2, vcap, vb2, bcap, ga2, gcap, ca2, cap2, (by rw [HLL.out, HLN.out, HON.out] <;> rfl), ?_, ?_, ?_, ?_, ?_⟩
                · obtain ⟨a, c, e, h, _⟩ := i1.lst
                  injection e with e _ _
                  rw [e]; exact h
                · obtain ⟨a, c, e, h, _⟩ := i2.lst
                  injection e with e _ _
                  rw [e]; exact h
                · obtain ⟨a, c, e, h⟩ := i3.lst
                  injection e with e _ _
                  rw [e]; exact h
                · rw [HLL.out]
                  obtain ⟨a, c, e, h⟩ := i4.lst
                  injection e with e _ _
                  rw [e]; exact h
                · refine irow_low (ownsRow_kept (irow_below HOI.out hl.hb) (fun j hj hj2 => hZ.block j hj2 (by have := HSZ.out; omega))) (by have := HSZ.out; have := HRW.out; omega)
              go_wp2_with fail
              have hst := store13g HRQ.out (.int .i64 m.up) (.int .i64 m.sc) (.int .i64 m.de) (.int .i64 m.ga) (.int .i64 m.b0) (.int .i64 m.b1) (.int .i64 m.b2) (.int .i64 m.b3) (.bool true) (.slice va2 k vcap) (.slice vb2 k bcap) (.slice ga2 k gcap) (.slice ca2 ln cap2)
              generalize (((((((((((((wr.setCell ⟨R, 0, none⟩ (.int .i64 m.up)).setCell ⟨R, 1, none⟩ (.int .i64 m.sc)).setCell ⟨R, 2, none⟩ (.int .i64 m.de)).setCell ⟨R, 3, none⟩ (.int .i64 m.ga)).setCell ⟨R, 4, none⟩ (.int .i64 m.b0)).setCell ⟨R, 5, none⟩ (.int .i64 m.b1)).setCell ⟨R, 6, none⟩ (.int .i64 m.b2)).setCell ⟨R, 7, none⟩ (.int .i64 m.b3)).setCell ⟨R, 8, none⟩ (.bool true)).setCell ⟨R, 9, none⟩ (.slice va2 k vcap)).setCell ⟨R, 10, none⟩ (.slice vb2 k bcap)).setCell ⟨R, 11, none⟩ (.slice ga2 k gcap)).setCell ⟨R, 12, none⟩ (.slice ca2 ln cap2)) = ZW at hst ⊢
              have HE := hide (HFN.out _ ZW (HBW.out ZW hst.2) (HFIN.out ZW hst.2))
              clear r0 r1 r2 r3 r4 r5 r6 r7 r8 r9 r10 r11 r12 z0 z1 z2 z3 z4 z5 z6 z7 z8 z9 z10 z11 z12 rlt s0 s1 s2 s3 s4 s5 s6 s7 s8 s9 s10 s11 s12 t0 t1 t2 t3 t4 t5 t6 t7 t8 t9 t10 t11 t12 slt
              obtain ⟨q0, q1, q2, q3, q4, q5, q6, q7, q8, q9, q10, q11, q12, _⟩ := blk13 hst.1
              refine bodyPost_ret (v := .tuple #[.agg (fcs { m with lg := true } (.slice va2 k vcap) (.slice vb2 k bcap) (.slice ga2 k gcap) (.slice ca2 ln cap2)), .slice oa k oc, .int .i64 0]) ?_ rfl HE.out
              simp [results, Tryd.results13, go_sem, q0, q1, q2, q3, q4, q5, q6, q7, q8, q9, q10, q11, q12]
            · have h4' : (4096 : Int) < (ln : Int) := by omega
              go_wp2_with fail
              have hst := store13g HRQ.out (.int .i64 0) (.int .i64 0) (.int .i64 0) (.int .i64 0) (.int .i64 0) (.int .i64 0) (.int .i64 0) (.int .i64 0) (.bool false) (.slice none 0 0) (.slice none 0 0) (.slice none 0 0) (.slice none 0 0)
              generalize (((((((((((((wr.setCell ⟨R, 0, none⟩ (.int .i64 0)).setCell ⟨R, 1, none⟩ (.int .i64 0)).setCell ⟨R, 2, none⟩ (.int .i64 0)).setCell ⟨R, 3, none⟩ (.int .i64 0)).setCell ⟨R, 4, none⟩ (.int .i64 0)).setCell ⟨R, 5, none⟩ (.int .i64 0)).setCell ⟨R, 6, none⟩ (.int .i64 0)).setCell ⟨R, 7, none⟩ (.int .i64 0)).setCell ⟨R, 8, none⟩ (.bool false)).setCell ⟨R, 9, none⟩ (.slice none 0 0)).setCell ⟨R, 10, none⟩ (.slice none 0 0)).setCell ⟨R, 11, none⟩ (.slice none 0 0)).setCell ⟨R, 12, none⟩ (.slice none 0 0)) = ZW at hst ⊢
              have HE := hide (HFN.out (.returned (.tuple #[.agg zf, .slice none 0 0, .int .i64 110])) ZW (HBW.out ZW hst.2) (Or.inl ⟨by rw [HLL.out, HLN.out]; omega, rfl⟩))
              clear r0 r1 r2 r3 r4 r5 r6 r7 r8 r9 r10 r11 r12 z0 z1 z2 z3 z4 z5 z6 z7 z8 z9 z10 z11 z12 rlt s0 s1 s2 s3 s4 s5 s6 s7 s8 s9 s10 s11 s12 t0 t1 t2 t3 t4 t5 t6 t7 t8 t9 t10 t11 t12 slt
              obtain ⟨q0, q1, q2, q3, q4, q5, q6, q7, q8, q9, q10, q11, q12, _⟩ := blk13 hst.1
              refine bodyPost_ret (v := .tuple #[.agg zf, .slice none 0 0, .int .i64 110]) ?_ rfl HE.out
              simp [results, Tryd.results13, go_sem, zf, q0, q1, q2, q3, q4, q5, q6, q7, q8, q9, q10, q11, q12]
          case pos =>
            have hlt' : (i : Int) < (nc : Int) := by omega
            have hfit := HFT.out i (by rw [HNC.out]; exact hlt)
            rcases HC2.out.below hl.hb with hz | ⟨b, of, rfl, hbl, hcell⟩
            · have := HNC.out; rw [hz] at this; simp at this; omega
            obtain ⟨c0, c1, c2⟩ := hcell i (by rw [HNC.out]; exact hlt)
            have HCC := hide (show chC P cs (i + 1) = spC P (cs.getD i C11.c0) (widV (cs.getD i C11.c0)) (chC P cs i) from rfl)
            generalize cs.getD i C11.c0 = x at hfit c0 c1 c2 HCC
            obtain ⟨L, hLE⟩ : ∃ L, chC P cs i = L := ⟨_, rfl⟩
            rw [hLE] at hL2 hSC hl HCC
            obtain ⟨f, l, g⟩ := x
            obtain ⟨f1, f2, f3, _, f4, f5, f6⟩ := C11.fitB_t.1 hfit
            simp only at c0 c1 c2 f1 f2 f3 f4 f5 f6
            obtain ⟨G, rfl⟩ : ∃ G : Nat, g = (G : Int) := ⟨g.toNat, by omega⟩
            obtain ⟨wd, hwd⟩ : ∃ wd, widV ⟨f, l, (G : Int)⟩ = wd := ⟨_, rfl⟩
            rw [hwd] at HCC
            have hwd2 : (wd : Int) = l - f + 1 := by rw [← hwd]; unfold widV; simp only; omega
            have HSP := hide (fun j => (show spC P ⟨f, l, (G : Int)⟩ (j + 1) L = if P (G + j) = 0 then spC P ⟨f, l, (G : Int)⟩ j L else addC (spC P ⟨f, l, (G : Int)⟩ j L) (f + j) (P (G + j)) from by rw [spC]; simp))
            have HSL := hide (fun j => spC_len P ⟨f, l, (G : Int)⟩ j L)
            have hw2 : wd ≤ 200 := by have := HG2B.out.1; omega
            have HL2 := hide hL2
            have HW2 := hide hw2
            obtain ⟨W3, hW3⟩ : ∃ W3, wr.alloc (.cells #[.int .i64 f, .int .i64 l, .int .i64 (G : Int)] 70) = W3 := ⟨_, rfl⟩
            have HB3 : Hid (Below wr.heap.size wr W3) := hide (hW3 ▸ (Below.refl _ _).alloc (Nat.le_refl _) _)
            have HS3 := hide (show LQ w1 B pb { m with lg := true } va vb vg vc (pkV m.ad old) (pkV m.be old) (old.map (rnS gs old)) (spC P ⟨f, l, (G : Int)⟩ 0 L) W3 ∧ SC (spC P ⟨f, l, (G : Int)⟩ 0 L) ∧ vc.ownBlock ≠ some wr.heap.size ∧ Blk W3 wr.heap.size #[.int .i64 f, .int .i64 l, .int .i64 (G : Int)] 70 from
              ⟨hl.below HB3.out, hSC, crow_own hl.rc (Nat.le_refl _), hW3 ▸ Blk.new _ _ _⟩)
            have HCB := hide (show B ≤ wr.heap.size ∧ pb < wr.heap.size from ⟨hl.sz, hl.kp.lt⟩)
            have w30 := HS3.out.2.2.2.cell 0
            have w31 := HS3.out.2.2.2.cell 1
            have w32 := HS3.out.2.2.2.cell 2
            simp at w30 w31 w32
            have w3l := HS3.out.2.2.2.lt
            clear hfit hwd hL2 hSC hl hi hlt hcell hLE hw2
            go_wp2_with fail
            clear hW3 HB3 c0 c1 c2 f12 flt w30 w31 w32 w3l
            generalize wr.heap.size = cb at HS3 HCB ⊢
            go_loopw [15] (fun vj wr => ∃ (j : Nat) (c : Int), vj = .int .i64 c ∧ Hid (c = f + (j : Int) ∧ j ≤ wd ∧ ∃ va vb vg vc, LQ w1 B pb { m with lg := true } va vb vg vc (pkV m.ad old) (pkV m.be old) (old.map (rnS gs old)) (spC P ⟨f, l, (G : Int)⟩ j L) wr ∧ SC (spC P ⟨f, l, (G : Int)⟩ j L) ∧ vc.ownBlock ≠ some cb ∧ Blk wr cb #[.int .i64 f, .int .i64 l, .int .i64 (G : Int)] 70)) (fun vj _ => (l + 1 - intOf vj).toNat)
            case atStart => exact ⟨0, f, rfl, hide ⟨by simp, by omega, va, vb, vg, vc, HS3.out⟩⟩
            case round =>
              clear HS3
              obtain ⟨j, c, rfl, HV⟩ := hrel
              obtain ⟨hcj, hj, va, vb, vg, vc, hl, hSC, hown, hcb⟩ := HV.out
              have hj0 : (0 : Int) ≤ (j : Int) := by omega
              clear HV
              have hcb0 := hcb.cell 0
              have hcb1 := hcb.cell 1
              have hcb2 := hcb.cell 2
              simp at hcb0 hcb1 hcb2
              have hcbl := hcb.lt
              by_cases hlt : j < wd
              case neg =>
                obtain rfl : j = wd := by omega
                have hlt' : ¬ c ≤ l := by omega
                have HE := hide (show (chC P cs (i + 1)).length ≤ (i + 1) * 200 ∧ SC (chC P cs (i + 1)) ∧ LQ w1 B pb { m with lg := true } va vb vg vc (pkV m.ad old) (pkV m.be old) (old.map (rnS gs old)) (chC P cs (i + 1)) wr from by
                  rw [HCC.out]
                  refine ⟨?_, hSC, hl⟩
                  have := (HSL.out j).2
                  have := HL2.out
                  have := HW2.out
                  omega)
                clear hl hSC hown hcb hj hlt hcj
                go_wp2_with fail
                go_roundw
                case rel => exact ⟨i + 1, by go_num, hide ⟨by omega, HE.out.1, HE.out.2.1, va, vb, vg, vc, HE.out.2.2⟩⟩
                case measure => simp [intOf]; omega
              case pos =>
                have hlt' : c ≤ l := by omega
                have hc0 : (0 : Int) ≤ c := by omega
                have hxx : (G : Int) + c - f = ((G + j : Nat) : Int) := by omega
                have CPl : Hid (Calls Tryd.prog 15 #[.slice oa k oc, .int .i64 ((G : Int) + c - f)] wr fun e y => e = .returned (.tuple #[.int .i64 (P (G + j)), .bool (!decide (P (G + j) = 0))]) ∧ Below wr.heap.size wr y) := hide (by
                  have h := rplace_any oa k oc (G10.ints old) ((G + j : Nat) : Int) wr (by rw [G10.ints_len]; exact HON.out) (by omega) (HOL.out.below hl.hb)
                  rw [(HPI.out (G + j) (by omega)).1, (HPI.out (G + j) (by omega)).2] at h
                  rw [hxx]
                  exact h)
                have HSJ := hide (HSP.out j)
                have hpb := HPB.out (G + j)
                have hlen := (HSL.out j).2
                have HJ := hide (And.intro hj hcj)
                have hlen2 : (spC P ⟨f, l, (G : Int)⟩ j L).length ≤ 100000 := by
                  have := HL2.out
                  have := HW2.out
                  have := HG2B.out.2
                  omega
                have HSCA := hide (fun (z : Int) (hz : SB z) => SC_add hSC (c := f + (j : Int)) (g := z) (by unfold SB; omega) hz)
                generalize P (G + j) = z at CPl HSJ hpb
                obtain ⟨Q2, hQ2⟩ : ∃ Q2, spC P ⟨f, l, (G : Int)⟩ (j + 1) L = Q2 := ⟨_, rfl⟩
                have HQ2 := hide hQ2
                rw [hQ2] at HSJ
                generalize spC P ⟨f, l, (G : Int)⟩ j L = Q at hl hSC HSJ HSCA hlen2
                have hcf : f + (j : Int) = c := hcj.symm
                rw [hcf] at HSJ HSCA
                have hw1 : IntKind.i64.wrap (c + 1) = c + 1 := by rw [IntKind.wrap_i64]; omega
                clear hlen hQ2 hxx
                by_cases hz0 : z = 0
                case pos =>
                  subst hz0
                  rw [if_pos rfl] at HSJ
                  rw [show (!decide ((0 : Int) = 0)) = false by decide] at CPl
                  have HLQ := hide hl
                  have HSC := hide hSC
                  have HOW := hide hown
                  have HCB2 := hide hcb
                  clear hl hSC hown hcb hj hlt hcj
                  go_wp2_with fail
                  refine CPl.out.mono ?_
                  rintro e y ⟨rfl, hy⟩
                  have HY := hide hy
                  clear hy
                  go_wp2_with fail
                  go_roundw
                  case rel => exact ⟨j + 1, c + 1, by go_num, hide ⟨by have := HJ.out.2; omega, by have := HW2.out; omega, va, vb, vg, vc, by rw [HQ2.out, HSJ.out]; exact HLQ.out.below HY.out, by rw [HQ2.out, HSJ.out]; exact HSC.out, HOW.out, HCB2.out.below HY.out⟩⟩
                  case measure => simp [intOf]; omega
                case neg =>
                  rw [if_neg hz0] at HSJ
                  rw [show (!decide (z = 0)) = true by simp [hz0]] at CPl
                  obtain ⟨ia, cap, rfl⟩ := crow_slice hl.rc
                  have HLQ := hide hl
                  have HSC := hide hSC
                  have HOW := hide hown
                  have HCB2 := hide hcb
                  have HQL := hide hlen2
                  have hql : (Q.length : Int) ≤ 100000 := by omega
                  clear hl hSC hown hcb hj hlt hcj
                  go_wp2_with fail
                  refine CPl.out.mono ?_
                  rintro e y ⟨rfl, hy⟩
                  have HLY := hide (HLQ.out.below hy)
                  have HCY := hide (HCB2.out.below hy)
                  have hsy := hy.size
                  have HOY : Hid (cb < y.heap.size) := hide HCY.out.lt
                  have q12 := HLY.out.kp.cell 12
                  simp at q12
                  have qlt := HLY.out.kp.lt
                  clear hy HLQ HCB2 hcb0 hcb1 hcb2 hcbl CPl
                  rcases List.eq_nil_or_concat Q with hQ | ⟨ps, x, hQ⟩
                  · subst hQ
                    go_upto_region 24 with (fail)
                    go_cut [164] from 109 to 179 (fun s164 wc => Hid (s164 = .bool false ∧ Below y.heap.size y wc))
                    case first =>
                      go_region
                      all_goals
                        go_wp2_with fail
                        go_meet
                        exact hide ⟨rfl, by first | exact Below.refl _ _ | exact (Below.refl _ _).drew⟩
                    case rest =>
                      obtain ⟨rfl, hw⟩ := hcut.out
                      have hl2 := HLY.out.below hw
                      obtain ⟨v1, w2, hr, ⟨va1, vn1, vc1, rfl⟩, kb2, hq1, r3, r5⟩ := hl2.c2 c c z (by have := HQL.out; omega)
                      have HR := hide hr
                      have HQ := hide (show w2.cell? ⟨pb, 12, none⟩ = some (.slice ia 0 cap) ∧ w2.frozen? ⟨pb, 12, none⟩ = false ∧ pb < w2.heap.size from ⟨by simpa using kb2.cell 12, kb2.frozen 12, kb2.lt⟩)
                      have HCW := HCY.out.below hw
                      have HE := hide (show LQ w1 B pb { m with lg := true } va vb vg (.slice va1 vn1 vc1) (pkV m.ad old) (pkV m.be old) (old.map (rnS gs old)) Q2 (w2.setCell ⟨pb, 12, none⟩ (.slice va1 vn1 vc1)) ∧ SC Q2 ∧ Value.ownBlock (.slice va1 vn1 vc1) ≠ some cb ∧ Blk (w2.setCell ⟨pb, 12, none⟩ (.slice va1 vn1 vc1)) cb #[.int .i64 f, .int .i64 l, .int .i64 (G : Int)] 70 from by
                        refine ⟨by rw [HSJ.out, addC_nil]; exact hq1, by rw [HSJ.out]; exact HSCA.out z (by unfold SB; omega), ?_, ?_⟩
                        · rcases r3 with r3 | ⟨g', r3, hg'⟩
                          · rw [r3]; exact HOW.out
                          · rw [r3]
                            intro e
                            injection e with e
                            have := HOY.out
                            have := hw.size
                            omega
                        · have h9 := HCW
                          unfold Blk at h9 ⊢
                          rw [r5 cb HCW.lt HOW.out (by have := HCB.out; have := hl2.hpb; omega)]
                          exact h9)
                      have p12 := hl2.kp.cell 12
                      simp at p12
                      have plt := hl2.kp.lt
                      clear hr kb2 hq1 hl2 r3 r5 hw HCW hcut q12 qlt
                      go_wp2_with (at_builtin; refine Lib.wpList_append_run _ rfl _ _ _ _ rfl _ _ rfl rfl _ _ HR.out ?_; clear p12 plt; obtain ⟨p12, z12, plt⟩ := HQ.out)
                      go_roundw
                      case rel => exact ⟨j + 1, c + 1, by go_num, hide ⟨by have := HJ.out.2; omega, by have := HW2.out; omega, va, vb, vg, _, by rw [HQ2.out]; exact HE.out⟩⟩
                      case measure => simp [intOf]; omega
                  · rw [List.concat_eq_append] at hQ
                    subst hQ
                    have hln : (ps ++ [x]).length = ps.length + 1 := by simp
                    rw [hln] at HLY HOW q12 hql
                    obtain ⟨gg, cap', hv, hgg, hgl⟩ := HLY.out.rc.shape (by rw [hln]; omega)
                    injection hv with hv1 hv2 hv3
                    clear hv2 hv3
                    subst hv1
                    have hx : (ps ++ [x]).getD ps.length C11.c0 = x := by rw [List.getD_eq_getElem?_getD, List.getElem?_concat_length]; rfl
                    obtain ⟨⟨d0, d1, d2⟩, df⟩ := HLY.out.rc.cell hln ps.length (by omega)
                    rw [hx] at d0 d1 d2
                    obtain ⟨s1, s2, s3⟩ := HSC.out x (by simp)
                    obtain ⟨xf, xl, xg⟩ := x
                    simp only at d0 d1 d2 s1 s2 s3
                    unfold SB at s1 s2 s3
                    clear hx hln hgg
                    have hp0 : (0 : Int) ≤ (ps.length : Int) := by omega
                    have hp1 : (ps.length : Int) ≤ 100000 := by omega
                    cases hgo : C11.goB ⟨xf, xl, xg⟩ c z
                    case true =>
                      have HAD := hide (addC_yes (l := ps) hgo)
                      have t1 : (xl == c - 1) = true := by
                        have := C11.goB_t.1 hgo
                        simp only at this
                        rw [beq_iff_eq]
                        omega
                      have t2 : (xg + c - xf == z) = true := by
                        have := C11.goB_t.1 hgo
                        simp only at this
                        rw [beq_iff_eq]
                        omega
                      clear hgo
                      go_upto_region 24 with (fail)
                      go_cut [164] from 109 to 179 (fun s164 wc => Hid (s164 = .bool true ∧ Below y.heap.size y wc))
                      case first =>
                        go_region
                        all_goals
                          go_wp2_with fail
                          go_meet
                          exact hide ⟨rfl, by first | exact Below.refl _ _ | exact (Below.refl _ _).drew⟩
                      case rest =>
                        obtain ⟨rfl, hw⟩ := hcut.out
                        have hl2 := HLY.out.below hw
                        have HCW := HCY.out.below hw
                        have e1 : wc.cell? ⟨gg, ps.length * 3 + 1, none⟩ = some (.int .i64 xl) := (hw.cell (p := ⟨gg, _, none⟩) hgl).trans d1
                        have e2 : wc.frozen? ⟨gg, ps.length * 3 + 1, none⟩ = false := (hw.frozen (p := ⟨gg, _, none⟩) hgl).trans df
                        have e3 : gg < wc.heap.size := Nat.lt_of_lt_of_le hgl hw.size
                        have HE := hide (show LQ w1 B pb { m with lg := true } va vb vg (.slice (some ⟨gg, 0, none⟩) (ps.length + 1) cap) (pkV m.ad old) (pkV m.be old) (old.map (rnS gs old)) Q2 (wc.setCell ⟨gg, ps.length * 3 + 1, none⟩ (.int .i64 c)) ∧ SC Q2 ∧ Value.ownBlock (.slice (some ⟨gg, 0, none⟩) (ps.length + 1) cap) ≠ some cb ∧ Blk (wc.setCell ⟨gg, ps.length * 3 + 1, none⟩ (.int .i64 c)) cb #[.int .i64 f, .int .i64 l, .int .i64 (G : Int)] 70 from
                          ⟨by rw [HSJ.out, HAD.out]; exact hl2.s (by simp) c, by rw [HSJ.out]; exact HSCA.out z (by unfold SB; omega), HOW.out, HCW.other (fun e => HOW.out (by rw [e]; rfl)) _ _⟩)
                        have p12 := hl2.kp.cell 12
                        simp at p12
                        have plt := hl2.kp.lt
                        clear hl2 hw HCW hcut q12 qlt d0 d1 d2 df
                        go_wp2_with fail
                        go_roundw
                        case rel => exact ⟨j + 1, c + 1, by go_num, hide ⟨by have := HJ.out.2; omega, by have := HW2.out; omega, va, vb, vg, _, by rw [HQ2.out]; exact HE.out⟩⟩
                        case measure => simp [intOf]; omega
                    case false =>
                      have HAD := hide (addC_no (l := ps) hgo)
                      by_cases hc1 : xl = c - 1
                      · have t1 : (xl == c - 1) = true := by simp [hc1]
                        have t2 : (xg + c - xf == z) = false := by
                          have := C11.goB_f.1 hgo
                          simp only at this
                          rw [beq_eq_false_iff_ne]
                          omega
                        clear hgo hc1
                        go_upto_region 24 with (fail)
                        go_cut [164] from 109 to 179 (fun s164 wc => Hid (s164 = .bool false ∧ Below y.heap.size y wc))
                        case first =>
                          go_region
                          all_goals
                            go_wp2_with fail
                            go_meet
                            exact hide ⟨rfl, by first | exact Below.refl _ _ | exact (Below.refl _ _).drew⟩
                        case rest =>
                          obtain ⟨rfl, hw⟩ := hcut.out
                          have hl2 := HLY.out.below hw
                          obtain ⟨v1, w2, hr, ⟨va1, vn1, vc1, rfl⟩, kb2, hq1, r3, r5⟩ := hl2.c2 c c z (by have := HQL.out; omega)
                          have HR := hide hr
                          have HQ := hide (show w2.cell? ⟨pb, 12, none⟩ = some (.slice (some ⟨gg, 0, none⟩) (ps.length + 1) cap) ∧ w2.frozen? ⟨pb, 12, none⟩ = false ∧ pb < w2.heap.size from ⟨by simpa using kb2.cell 12, kb2.frozen 12, kb2.lt⟩)
                          have HCW := HCY.out.below hw
                          have HE := hide (show LQ w1 B pb { m with lg := true } va vb vg (.slice va1 vn1 vc1) (pkV m.ad old) (pkV m.be old) (old.map (rnS gs old)) Q2 (w2.setCell ⟨pb, 12, none⟩ (.slice va1 vn1 vc1)) ∧ SC Q2 ∧ Value.ownBlock (.slice va1 vn1 vc1) ≠ some cb ∧ Blk (w2.setCell ⟨pb, 12, none⟩ (.slice va1 vn1 vc1)) cb #[.int .i64 f, .int .i64 l, .int .i64 (G : Int)] 70 from by
                            refine ⟨by rw [HSJ.out, HAD.out]; exact hq1, by rw [HSJ.out]; exact HSCA.out z (by unfold SB; omega), ?_, ?_⟩
                            · rcases r3 with r3 | ⟨g', r3, hg'⟩
                              · rw [r3]; exact HOW.out
                              · rw [r3]
                                intro e
                                injection e with e
                                have := HOY.out
                                have := hw.size
                                omega
                            · have h9 := HCW
                              unfold Blk at h9 ⊢
                              rw [r5 cb HCW.lt HOW.out (by have := HCB.out; have := hl2.hpb; omega)]
                              exact h9)
                          have p12 := hl2.kp.cell 12
                          simp at p12
                          have plt := hl2.kp.lt
                          clear hr kb2 hq1 hl2 r3 r5 hw HCW hcut q12 qlt
                          go_wp2_with (at_builtin; refine Lib.wpList_append_run _ rfl _ _ _ _ rfl _ _ rfl rfl _ _ HR.out ?_; clear p12 plt; obtain ⟨p12, z12, plt⟩ := HQ.out)
                          go_roundw
                          case rel => exact ⟨j + 1, c + 1, by go_num, hide ⟨by have := HJ.out.2; omega, by have := HW2.out; omega, va, vb, vg, _, by rw [HQ2.out]; exact HE.out⟩⟩
                          case measure => simp [intOf]; omega
                      · have t1 : (xl == c - 1) = false := by simp [hc1]
                        clear hgo hc1
                        go_upto_region 24 with (fail)
                        go_cut [164] from 109 to 179 (fun s164 wc => Hid (s164 = .bool false ∧ Below y.heap.size y wc))
                        case first =>
                          go_region
                          all_goals
                            go_wp2_with fail
                            go_meet
                            exact hide ⟨rfl, by first | exact Below.refl _ _ | exact (Below.refl _ _).drew⟩
                        case rest =>
                          obtain ⟨rfl, hw⟩ := hcut.out
                          have hl2 := HLY.out.below hw
                          obtain ⟨v1, w2, hr, ⟨va1, vn1, vc1, rfl⟩, kb2, hq1, r3, r5⟩ := hl2.c2 c c z (by have := HQL.out; omega)
                          have HR := hide hr
                          have HQ := hide (show w2.cell? ⟨pb, 12, none⟩ = some (.slice (some ⟨gg, 0, none⟩) (ps.length + 1) cap) ∧ w2.frozen? ⟨pb, 12, none⟩ = false ∧ pb < w2.heap.size from ⟨by simpa using kb2.cell 12, kb2.frozen 12, kb2.lt⟩)
                          have HCW := HCY.out.below hw
                          have HE := hide (show LQ w1 B pb { m with lg := true } va vb vg (.slice va1 vn1 vc1) (pkV m.ad old) (pkV m.be old) (old.map (rnS gs old)) Q2 (w2.setCell ⟨pb, 12, none⟩ (.slice va1 vn1 vc1)) ∧ SC Q2 ∧ Value.ownBlock (.slice va1 vn1 vc1) ≠ some cb ∧ Blk (w2.setCell ⟨pb, 12, none⟩ (.slice va1 vn1 vc1)) cb #[.int .i64 f, .int .i64 l, .int .i64 (G : Int)] 70 from by
                            refine ⟨by rw [HSJ.out, HAD.out]; exact hq1, by rw [HSJ.out]; exact HSCA.out z (by unfold SB; omega), ?_, ?_⟩
                            · rcases r3 with r3 | ⟨g', r3, hg'⟩
                              · rw [r3]; exact HOW.out
                              · rw [r3]
                                intro e
                                injection e with e
                                have := HOY.out
                                have := hw.size
                                omega
                            · have h9 := HCW
                              unfold Blk at h9 ⊢
                              rw [r5 cb HCW.lt HOW.out (by have := HCB.out; have := hl2.hpb; omega)]
                              exact h9)
                          have p12 := hl2.kp.cell 12
                          simp at p12
                          have plt := hl2.kp.lt
                          clear hr kb2 hq1 hl2 r3 r5 hw HCW hcut q12 qlt
                          go_wp2_with (at_builtin; refine Lib.wpList_append_run _ rfl _ _ _ _ rfl _ _ rfl rfl _ _ HR.out ?_; clear p12 plt; obtain ⟨p12, z12, plt⟩ := HQ.out)
                          go_roundw
                          case rel => exact ⟨j + 1, c + 1, by go_num, hide ⟨by have := HJ.out.2; omega, by have := HW2.out; omega, va, vb, vg, _, by rw [HQ2.out]; exact HE.out⟩⟩
                          case measure => simp [intOf]; omega
end Go.Proofs.YthnpnkiomknkeaaDoor.S13
