/-
  Joined: S13M, S13N, S13O, S13K, S13W, S13V.
-/
import Derived.Deep.CutRange
import Derived.Test.YthnpnkiomknkeaaDoorC13
import Derived.Test.YthnpnkiomknkeaaDoorC16
import Derived.Test.YthnpnkiomknkeaaDoorC18
import Derived.Test.YthnpnkiomknkeaaDoorC22
import Derived.Test.YthnpnkiomknkeaaDoorC23
namespace Go.Proofs.YthnpnkiomknkeaaDoor.S13
open Go.RowKit Go.Deep Go.Maps Go.Proofs.YthnpnkiomknkeaaDoor.F12
set_option linter.unusedVariables false
set_option linter.unusedSimpArgs false
def SB (x : Int) : Prop := -2000000 ≤ x ∧ x ≤ 2000000
set_option maxRecDepth 8000 in
set_option maxHeartbeats 2000000 in
theorem goesOn_any (f l g c k : Int) (w : World) (hf : SB f) (hl : SB l) (hg : SB g) :
    Calls Tryd.prog 59 #[.agg #[.int .i64 f, .int .i64 l, .int .i64 g], .int .i64 c, .int .i64 k] w fun e w' => e = .returned (.bool (C11.goB ⟨f, l, g⟩ c k)) ∧ Below w.heap.size w w' := by
  have HB := hide ((Below.refl w.heap.size w).alloc (Nat.le_refl _) (.cells #[.int .i64 f, .int .i64 l, .int .i64 g] 70))
  obtain ⟨f1, f2⟩ := hf
  obtain ⟨l1, l2⟩ := hl
  obtain ⟨g1, g2⟩ := hg
  by_cases h1 : c = l + 1
  · by_cases h2 : k = g + l - f + 1
    · have HG := hide (show C11.goB ⟨f, l, g⟩ c k = true from C11.goB_t.2 ⟨h1, h2⟩)
      have t1 : (c == l + 1) = true := by simp [h1]
      have t2 : (k == g + l - f + 1) = true := by simp [h2]
      clear h1 h2
      go_enter Tryd.func59, Tryd.ntmps59
      go_wp2_with fail
      go_ret
      exact ⟨by rw [HG.out]; rfl, HB.out⟩
    · have HG := hide (show C11.goB ⟨f, l, g⟩ c k = false from C11.goB_f.2 (fun h => h2 h.2))
      have t1 : (c == l + 1) = true := by simp [h1]
      have t2 : (k == g + l - f + 1) = false := by simp [h2]
      clear h1 h2
      go_enter Tryd.func59, Tryd.ntmps59
      go_wp2_with fail
      go_ret
      exact ⟨by rw [HG.out]; rfl, HB.out⟩
  · have HG := hide (show C11.goB ⟨f, l, g⟩ c k = false from C11.goB_f.2 (fun h => h1 h.1))
    have t1 : (c == l + 1) = false := by simp [h1]
    clear h1
    go_enter Tryd.func59, Tryd.ntmps59
    go_wp2_with fail
    go_ret
    exact ⟨by rw [HG.out]; rfl, HB.out⟩
def addC (l : List C11.Ch) (c g : Int) : List C11.Ch := match l.getLast? with
  | some x => if C11.goB x c g then l.dropLast ++ [⟨x.f, c, x.g⟩] else l ++ [⟨c, c, g⟩]
  | none => [⟨c, c, g⟩]
theorem addC_nil (c g : Int) : addC [] c g = [⟨c, c, g⟩] := rfl
theorem addC_yes {l : List C11.Ch} {x : C11.Ch} {c g : Int} (h : C11.goB x c g = true) : addC (l ++ [x]) c g = l ++ [⟨x.f, c, x.g⟩] := by
  unfold addC; rw [List.getLast?_concat]; simp [h]
theorem addC_no {l : List C11.Ch} {x : C11.Ch} {c g : Int} (h : C11.goB x c g = false) : addC (l ++ [x]) c g = l ++ [x] ++ [⟨c, c, g⟩] := by
  unfold addC; rw [List.getLast?_concat]; simp [h]
theorem addC_len (l : List C11.Ch) (c g : Int) : l.length ≤ (addC l c g).length ∧ (addC l c g).length ≤ l.length + 1 ∧ 0 < (addC l c g).length := by
  rcases List.eq_nil_or_concat l with rfl | ⟨l, x, rfl⟩
  · rw [addC_nil]; simp
  · cases h : C11.goB x c g
    · rw [List.concat_eq_append, addC_no h]; simp
    · rw [List.concat_eq_append, addC_yes h]; simp
theorem app_c2 {W : World} {B : Nat} {v : Value} {cs : List C11.Ch} (f l g : Int) (h : C11.CRow W B v cs) (hB : B ≤ W.heap.size) (hl : cs.length ≤ 1000000) :
    ∃ v' w2, (Builtin.append_ #[27, 27] 27 #[v, .slice (some ⟨W.heap.size, 0, none⟩) 1 1]).run Tryd.prog (W.alloc (.cells #[.int .i64 f, .int .i64 l, .int .i64 g] 70)) = .ok v' w2 ∧
      C11.CRow w2 B v' (cs ++ [⟨f, l, g⟩]) ∧ Below B W w2 ∧ (v'.ownBlock = v.ownBlock ∨ ∃ g, v'.ownBlock = some g ∧ W.heap.size ≤ g) ∧ (∀ k, k < W.heap.size → v.ownBlock ≠ some k → w2.heap[k]? = W.heap[k]?) := by
  obtain ⟨i0, hi, hz0, hz1, hz2⟩ := info_parts5 C11.info_ch
  obtain ⟨gg, cap, w2, hr, ho, hg, hat, _⟩ := run_append_lies (P := Tryd.prog) (W.alloc (.cells #[.int .i64 f, .int .i64 l, .int .i64 g] 70)) 27 27 B 70 i0 _ 3 24 Tryd.underlying27 hi hz0 hz1 hz2 rfl (by decide) v cs.length ((C11.fl3 cs).map (Value.int .i64)) (World.ownsRow.alloc h _) ⟨W.heap.size, 0, none⟩ 1 1 [.int .i64 f, .int .i64 l, .int .i64 g] (by simp)
    (fun j u hu => by rw [Go.WideShapes.add_plain, Nat.zero_add, World.cell?_alloc_at _ _ _ _ rfl]; simpa using hu) (fun u hu => by simp at hu; rcases hu with rfl | rfl | rfl <;> rfl) (by decide) (by unfold maxLen; omega) (by omega) (by simp; omega) (W.heap.size + 1) (by simp)
  refine ⟨_, w2, hr, ?_, ((Below.refl B W).alloc hB _).grown hg (by simp; omega) fun k hk' => (World.ownsRow.lt h k hk').1, ?_, ?_⟩
  · unfold C11.CRow
    rw [C11.fl3_snoc, List.map_append, List.length_append]
    exact ho
  · rcases hat with hat | hat
    · exact Or.inl (by rw [hat]; rfl)
    · exact Or.inr ⟨gg, rfl, by omega⟩
  · intro k hk hne
    rw [hg.block k (by simp; omega) (Ne.symm hne)]
    exact ((Below.refl W.heap.size W).alloc (Nat.le_refl _) (.cells #[.int .i64 f, .int .i64 l, .int .i64 g] 70)).block k hk
def ShR (w : World) (B : Nat) (v : Value) (cs : List C11.Ch) (e : Ending) (w' : World) : Prop := ∃ v', e = .returned v' ∧ C11.CRow w' B v' cs ∧ Below B w w' ∧ (v'.ownBlock = v.ownBlock ∨ ∃ g, v'.ownBlock = some g ∧ w.heap.size ≤ g) ∧ (∀ k, k < w.heap.size → v.ownBlock ≠ some k → w'.heap[k]? = w.heap[k]?)
set_option maxRecDepth 8000 in
set_option maxHeartbeats 4000000 in
theorem shownBy_any (v : Value) (cs : List C11.Ch) (B : Nat) (c k : Int) (w : World) (h : C11.CRow w B v cs) (hB : B ≤ w.heap.size) (hl : cs.length ≤ 1000000) (hs : ∀ x ∈ cs, SB x.f ∧ SB x.l ∧ SB x.g) :
    Calls Tryd.prog 43 #[v, .int .i64 c, .int .i64 k] w (ShR w B v (addC cs c k)) := by
  rcases List.eq_nil_or_concat cs with rfl | ⟨ps, x, rfl⟩
  · obtain ⟨v', w2, hr, r1, r2, r3, r4⟩ := app_c2 c c k h hB hl
    have HF := hide (show ShR w B v (addC [] c k) (.returned v') w2 from ⟨v', rfl, r1, r2, r3, r4⟩)
    obtain ⟨a, cap, rfl⟩ := h.emp
    have HRU := hide hr
    clear h hr r1 r2 r3 r4 hB hl hs
    go_enter Tryd.func43, Tryd.ntmps43
    go_wp2_with (at_builtin; refine Lib.wpList_append_run _ rfl _ _ _ _ rfl _ _ rfl rfl _ _ HRU.out ?_)
    go_ret
    exact HF.out
  · rw [List.concat_eq_append] at h hl hs ⊢
    obtain ⟨v', w2, hr, r1, r2, r3, r4⟩ := app_c2 c c k h hB hl
    have hlen : (ps ++ [x]).length = ps.length + 1 := by simp
    obtain ⟨gg, cap, rfl, hg, hgl⟩ := h.shape (by rw [hlen]; omega)
    have hx : (ps ++ [x]).getD ps.length C11.c0 = x := by rw [List.getD_eq_getElem?_getD, List.getElem?_concat_length]; rfl
    obtain ⟨⟨c0, c1, c2⟩, cf⟩ := h.cell rfl ps.length (by rw [hlen]; omega)
    rw [hx] at c0 c1 c2
    obtain ⟨s1, s2, s3⟩ := hs x (by simp)
    obtain ⟨f, l, g⟩ := x
    simp only at c0 c1 c2 s1 s2 s3
    have CG := hide (fun u => goesOn_any f l g c k u s1 s2 s3)
    have hps : (ps.length : Int) ≤ 1000000 := by rw [hlen] at hl; omega
    have hp0 : (0 : Int) ≤ (ps.length : Int) := by omega
    rw [hlen] at h
    rw [hlen]
    have HH := hide h
    have HGL := hide hgl
    have HBW := hide hB
    have HGB := hide hg
    have hlen2 : (ps ++ [(⟨f, l, g⟩ : C11.Ch)]).length ≤ 1000000 := hl
    have HLN := hide hlen2
    clear hr r1 r2 r3 r4 hs hx v' w2
    cases hgo : C11.goB ⟨f, l, g⟩ c k
    · rw [hgo] at CG
      have HA := hide (addC_no (l := ps) hgo)
      clear h hg hB hl hgo hlen2 hlen
      go_enter Tryd.func43, Tryd.ntmps43
      go_wp2_with fail
      refine (CG.out _).mono ?_
      rintro e w1 ⟨rfl, hb⟩
      have h1 := HH.out.kept (w' := w1) (fun j _ hj => hb.block j hj)
      obtain ⟨v', w2, hr, r1, r2, r3, r4⟩ := app_c2 c c k h1 (Nat.le_trans HBW.out hb.size) HLN.out
      have HF := hide (show ShR w B (.slice (some ⟨gg, 0, none⟩) (ps.length + 1) cap) (addC (ps ++ [(⟨f, l, g⟩ : C11.Ch)]) c k) (.returned v') w2 from by
        rw [HA.out]
        refine ⟨v', rfl, r1, (hb.mono HBW.out).trans r2, ?_, fun j hj hne => (r4 j (Nat.lt_of_lt_of_le hj hb.size) hne).trans (hb.block j hj)⟩
        rcases r3 with r3 | ⟨g', r3, hg'⟩
        · exact Or.inl r3
        · exact Or.inr ⟨g', r3, Nat.le_trans hb.size hg'⟩)
      have HRU := hide hr
      clear hr r1 r2 r3 r4 h1 hb
      go_wp2_with (at_builtin; refine Lib.wpList_append_run _ rfl _ _ _ _ rfl _ _ rfl rfl _ _ HRU.out ?_)
      go_ret
      exact HF.out
    · rw [hgo] at CG
      have HA := hide (addC_yes (l := ps) hgo)
      clear h hg hB hl hgo hlen2 hlen
      go_enter Tryd.func43, Tryd.ntmps43
      go_wp2_with fail
      refine (CG.out _).mono ?_
      rintro e w1 ⟨rfl, hb⟩
      have h1 := HH.out.kept (w' := w1) (fun j _ hj => hb.block j hj)
      have d1 : w1.cell? ⟨gg, ps.length * 3 + 1, none⟩ = some (.int .i64 l) := (hb.cell (p := ⟨gg, _, none⟩) hgl).trans c1
      have d2 : w1.frozen? ⟨gg, ps.length * 3 + 1, none⟩ = false := (hb.frozen (p := ⟨gg, _, none⟩) hgl).trans cf
      have dl : gg < w1.heap.size := Nat.lt_of_lt_of_le hgl hb.size
      have HF := hide (show ShR w B (.slice (some ⟨gg, 0, none⟩) (ps.length + 1) cap) (addC (ps ++ [(⟨f, l, g⟩ : C11.Ch)]) c k) (.returned (.slice (some ⟨gg, 0, none⟩) (ps.length + 1) cap)) (w1.setCell ⟨gg, ps.length * 3 + 1, none⟩ (.int .i64 c)) from by
        rw [HA.out]
        refine ⟨_, rfl, h1.stored _ _ (by simp), ((hb.mono HBW.out)).setCell (p := ⟨gg, _, none⟩) HGB.out _, Or.inl rfl, fun j hj hne => ?_⟩
        rw [Below.heap_setCell _ _ _ _ (fun e => hne (by rw [e]; rfl))]
        exact hb.block j hj)
      clear h1 hb c0 c1 c2 cf
      go_wp2_with fail
      go_ret
      exact HF.out
set_option maxRecDepth 8000 in
set_option maxHeartbeats 2000000 in
theorem place_any (a : Option Addr) (n c : Nat) (zs : List Int) (x : Int) (w : World) (hn : zs.length = n) (hb : n ≤ 1000000) (hL : Lst w a zs) :
    Calls Tryd.prog 14 #[.slice a n c, .int .i64 x] w fun e w' => e = .returned (.tuple #[.int .i64 (max (Lib.idxOf zs x) 0), .bool (decide (0 ≤ Lib.idxOf zs x))]) ∧ w' = w := by
  have C := G10.index_any a n c zs x w (by omega) hb hL
  rw [List.take_of_length_le (by omega)] at C
  generalize Lib.idxOf zs x = z at C
  have C := hide C
  clear hL hn hb
  go_enter Tryd.func14, Tryd.ntmps14
  go_wp2_with fail
  refine C.out.mono ?_
  rintro e w1 ⟨rfl, rfl⟩
  by_cases h : 0 ≤ z
  · have h1 : decide (0 ≤ z) = true := by simp [h]
    go_wp2_with fail
    go_ret2
    exact ⟨by first | rfl | (rw [h1]; rfl), rfl⟩
  · have h1 : decide (0 ≤ z) = false := by simp [h]
    go_wp2_with fail
    go_ret2
    exact ⟨by first | rfl | (rw [h1]; rfl), rfl⟩
def pkV (zs : List Int) (ps : List Nat) : List Int := ps.map fun i => zs.getD i 0
theorem pk_eq {zs o : List Int} {ps : List Nat} (hl : o.length = ps.length) (h : ∀ j, j < ps.length → o.getD j 0 = zs.getD (ps.getD j 0) 0) : o = pkV zs ps := by
  apply List.ext_getElem?
  intro j
  by_cases hj : j < ps.length
  · have := h j hj
    rw [List.getD_eq_getElem?_getD, List.getElem?_eq_getElem (by omega), List.getD_eq_getElem?_getD (l := ps), List.getElem?_eq_getElem hj] at this
    unfold pkV
    rw [List.getElem?_eq_getElem (by omega), List.getElem?_map, List.getElem?_eq_getElem hj]
    simpa using this
  · unfold pkV
    rw [List.getElem?_eq_none (by omega), List.getElem?_eq_none (by simp; omega)]
theorem ints_cell {w : World} {a : Option Addr} {ps : List Nat} {k : Nat} (h : Lst w a (G10.ints ps)) (hk : k < ps.length) : ∃ b o, a = some ⟨b, o, none⟩ ∧ b < w.heap.size ∧ w.cell? ⟨b, o + k, none⟩ = some (.int .i64 ((ps.getD k 0 : Nat) : Int)) := by
  rcases h with hz | ⟨b, o, h1, h2, h3⟩
  · have := G10.ints_len ps; rw [hz] at this; simp at this; omega
  · refine ⟨b, o, h1, h2, ?_⟩
    rw [h3 k (by rw [G10.ints_len]; exact hk), G10.ints_at ps k hk]
set_option maxRecDepth 8000 in
set_option maxHeartbeats 4000000 in
theorem picked_any (la pa : Option Addr) (ln lc pn pc : Nat) (zs : List Int) (ps : List Nat) (w : World) (hl : zs.length = ln) (hp : ps.length = pn) (hpn : pn ≤ 100000) (hln : ln ≤ 1000000) (hlt : ∀ p ∈ ps, p < ln) (hL : Lst w la zs) (hP : Lst w pa (G10.ints ps)) :
    Calls Tryd.prog 26 #[.slice la ln lc, .slice pa pn pc] w fun e w' => e = .returned (.slice (some ⟨w.heap.size, 0, none⟩) pn pn) ∧ Blk w' w.heap.size (ilA (pkV zs ps)) 3 ∧ Below w.heap.size w w' := by
  have MK := Go.Proofs.YthnpnkiomknkeaaDoor.make_ints pn hpn
  have hpn' : (pn : Int) ≤ 100000 := by omega
  have hln' : (ln : Int) ≤ 1000000 := by omega
  have HL := hide hL
  have HP := hide hP
  have HLL := hide hl
  have HPL := hide hp
  have HLT := hide hlt
  have HS0 := hide (show Blk (w.alloc (.cells (Array.replicate pn (.int .i64 0)) 3)) w.heap.size (ilA (List.replicate pn 0)) 3 ∧ Below w.heap.size w (w.alloc (.cells (Array.replicate pn (.int .i64 0)) 3)) from ⟨by rw [← ilA_zero]; exact Blk.new w _ _, (Below.refl _ _).alloc (Nat.le_refl _) _⟩)
  clear hl hp hpn hln hlt hL hP
  go_enter Tryd.func26, Tryd.ntmps26
  go_wp2_with fail
  go_loopw [13] (fun vi wr => ∃ k : Nat, vi = .int .i64 (k : Int) ∧ Hid (k ≤ pn ∧ ∃ o, Blk wr w.heap.size (ilA o) 3 ∧ o.length = pn ∧ (∀ j, j < k → o.getD j 0 = zs.getD (ps.getD j 0) 0) ∧ Below w.heap.size w wr)) (fun vi _ => pn - (intOf vi).toNat)
  case atStart => exact ⟨0, rfl, hide ⟨by omega, _, HS0.out.1, by simp, fun j hj => absurd hj (by omega), HS0.out.2⟩⟩
  case round =>
    clear HS0 MK
    obtain ⟨k, rfl, HV⟩ := hrel
    obtain ⟨hk, o, hO, hol, hS, hb⟩ := HV.out
    have hk0 : (0 : Int) ≤ (k : Int) := by omega
    clear HV
    by_cases hlt : k < pn
    case neg =>
      obtain rfl : k = pn := by omega
      have hlt' : ¬ (k : Int) < (k : Int) := by omega
      have HE := hide (show Blk wr w.heap.size (ilA (pkV zs ps)) 3 ∧ Below w.heap.size w wr from ⟨by rw [← pk_eq (by rw [hol]; exact HPL.out.symm) (fun j hj => hS j (by rw [← HPL.out]; exact hj))]; exact hO, hb⟩)
      clear hO hol hS hb hk hlt
      go_wp2_with fail
      go_ret
      exact ⟨rfl, HE.out⟩
    case pos =>
      have hlt' : (k : Int) < (pn : Int) := by omega
      obtain ⟨pb, po, rfl, hpb, hpc⟩ := ints_cell (HP.out.below hb) (k := k) (by rw [HPL.out]; exact hlt)
      have hpm : ps.getD k 0 ∈ ps := by
        rw [List.getD_eq_getElem?_getD, List.getElem?_eq_getElem (by rw [HPL.out]; exact hlt)]
        exact List.getElem_mem _
      have hpl := HLT.out _ hpm
      have HQ := hide (show ∀ x, x = ps.getD k 0 → (∀ j, j < k + 1 → (o.set k (zs.getD x 0)).getD j 0 = zs.getD (ps.getD j 0) 0) from fun x hx j hj => by
        rw [set_get o k j _ (by rw [hol]; exact hlt)]
        by_cases e : j = k
        · rw [if_pos e, hx, e]
        · rw [if_neg e]; exact hS j (by omega))
      generalize ps.getD k 0 = p at hpc hpl HQ
      obtain ⟨lb, lo, rfl, hlb, hlc⟩ : ∃ b o, la = some ⟨b, o, none⟩ ∧ b < wr.heap.size ∧ wr.cell? ⟨b, o + p, none⟩ = some (.int .i64 (zs.getD p 0)) := by
        rcases HL.out.below hb with hz | ⟨b, of, h1, h2, h3⟩
        · have := HLL.out; rw [hz] at this; simp at this; omega
        · exact ⟨b, of, h1, h2, h3 p (by rw [HLL.out]; exact hpl)⟩
      have HQ2 := hide (HQ.out p rfl)
      generalize zs.getD p 0 = z at hlc HQ2
      have hpl' : (p : Int) < (ln : Int) := by omega
      have hp0 : (0 : Int) ≤ (p : Int) := by omega
      have nc := hO.cell k
      rw [ilA_at o k (by rw [hol]; exact hlt)] at nc
      have nf := hO.frozen k
      have nl := hO.lt
      have HE := hide (show Blk (wr.setCell ⟨w.heap.size, k, none⟩ (.int .i64 z)) w.heap.size (ilA (o.set k z)) 3 ∧ (o.set k z).length = pn ∧ Below w.heap.size w (wr.setCell ⟨w.heap.size, k, none⟩ (.int .i64 z)) from ⟨by rw [← ilA_set]; exact hO.set k _, by rw [List.length_set]; exact hol, hb.setCell (p := ⟨w.heap.size, k, none⟩) (Nat.le_refl _) _⟩)
      clear hO hol hS hb hk hlt HQ hpm hpl
      go_wp2_with fail
      go_roundw
      case rel => exact ⟨k + 1, by go_num, hide ⟨by omega, _, HE.out.1, HE.out.2.1, HQ2.out, HE.out.2.2⟩⟩
      case measure => simp [intOf]; omega
def PV (old : List Nat) : Nat → Nat → Int
  | 0, _ => 0
  | k + 1, j => if j = old.getD k 0 then (k : Int) else PV old k j
theorem PV_bd (old : List Nat) (k j : Nat) : 0 ≤ PV old k j ∧ PV old k j ≤ k := by
  induction k with
  | zero => simp [PV]
  | succ k ih =>
    rw [PV]
    split <;> omega
def spC (P : Nat → Int) (x : C11.Ch) : Nat → List C11.Ch → List C11.Ch
  | 0, l => l
  | k + 1, l => if P (x.g.toNat + k) = 0 then spC P x k l else addC (spC P x k l) (x.f + k) (P (x.g.toNat + k))
def widV (x : C11.Ch) : Nat := (x.l - x.f + 1).toNat
def chC (P : Nat → Int) (cs : List C11.Ch) : Nat → List C11.Ch
  | 0 => []
  | k + 1 => spC P (cs.getD k C11.c0) (widV (cs.getD k C11.c0)) (chC P cs k)
theorem spC_len (P : Nat → Int) (x : C11.Ch) (k : Nat) (l : List C11.Ch) : l.length ≤ (spC P x k l).length ∧ (spC P x k l).length ≤ l.length + k := by
  induction k with
  | zero => simp [spC]
  | succ k ih =>
    rw [spC]
    split
    · omega
    · have := addC_len (spC P x k l) (x.f + k) (P (x.g.toNat + k))
      omega
theorem chC_mono (P : Nat → Int) (cs : List C11.Ch) {k m : Nat} (h : k ≤ m) : (chC P cs k).length ≤ (chC P cs m).length := by
  induction m with
  | zero => obtain rfl : k = 0 := by omega
            exact Nat.le_refl _
  | succ m ih =>
    by_cases e : k = m + 1
    · rw [e]; exact Nat.le_refl _
    · exact Nat.le_trans (ih (by omega)) (spC_len P _ _ _).1
def SC (l : List C11.Ch) : Prop := ∀ x ∈ l, SB x.f ∧ SB x.l ∧ SB x.g
theorem SC_add {l : List C11.Ch} {c g : Int} (h : SC l) (hc : SB c) (hg : SB g) : SC (addC l c g) := by
  rcases List.eq_nil_or_concat l with rfl | ⟨l, x, rfl⟩
  · rw [addC_nil]
    intro y hy
    simp at hy
    subst hy
    exact ⟨hc, hc, hg⟩
  · rw [List.concat_eq_append] at h ⊢
    have hx := h x (by simp)
    cases hgo : C11.goB x c g
    · rw [addC_no hgo]
      intro y hy
      rw [List.mem_append] at hy
      rcases hy with hy | hy
      · exact h y hy
      · simp at hy
        subst hy
        exact ⟨hc, hc, hg⟩
    · rw [addC_yes hgo]
      intro y hy
      rw [List.mem_append] at hy
      rcases hy with hy | hy
      · exact h y (by simp [hy])
      · simp at hy
        subst hy
        exact ⟨hx.1, hc, hx.2.2⟩
def ChsR (P : Nat → Int) (cs : List C11.Ch) (nc : Nat) (w : World) (e : Ending) (w' : World) : Prop := Below w.heap.size w w' ∧
  (((chC P cs nc).length ≤ 4096 ∧ ∃ v, e = .returned (.tuple #[v, .bool true]) ∧ C11.CRow w' w.heap.size v (chC P cs nc)) ∨ (4096 < (chC P cs nc).length ∧ e = .returned (.tuple #[.slice none 0 0, .bool false])))
theorem crow_low {w : World} {B B' : Nat} {v : Value} {cs : List C11.Ch} (h : C11.CRow w B v cs) (hB : B' ≤ B) : C11.CRow w B' v cs := by
  obtain ⟨h0, h | ⟨g, cap, cur, hv, hg, rest⟩⟩ := h
  · exact ⟨h0, Or.inl h⟩
  · exact ⟨h0, Or.inr ⟨g, cap, cur, hv, by omega, rest⟩⟩
theorem crow_slice {w : World} {B : Nat} {v : Value} {cs : List C11.Ch} (h : C11.CRow w B v cs) : ∃ a cap, v = .slice a cs.length cap := by
  obtain ⟨a, cap, h1, _⟩ := h.lst
  exact ⟨a, cap, h1⟩
theorem crow_own {w : World} {B : Nat} {v : Value} {cs : List C11.Ch} (h : C11.CRow w B v cs) {k : Nat} (hk : w.heap.size ≤ k) : v.ownBlock ≠ some k := by
  intro e
  have := (World.ownsRow.lt h k e).2
  omega
theorem fit_of {cs : List C11.Ch} {n : Nat} {i : Nat} (h : C11.gooB cs (n : Int) = true) (hi : i < cs.length) : C11.fitB (cs.getD i C11.c0) (n : Int) = true := by
  have := (C11.gooB_iff.1 h).2 i hi
  unfold C11.okB at this
  rw [Bool.and_eq_true] at this
  exact this.1
set_option maxRecDepth 8000 in
set_option maxHeartbeats 16000000 in
theorem charsOf_any (m : Mt) (aa ab ga ca oa : Option Addr) (na nb ng nc ka kb kg kc on oc : Nat) (cs : List C11.Ch) (old : List Nat) (w : World) (hn4 : ng ≤ 4096) (hon : old.length = on) (ho4 : on ≤ 4096) (hlt : ∀ p ∈ old, p < ng) (hO : Lst w oa (G10.ints old)) (hnc : cs.length = nc) (hgo : C11.gooB cs (ng : Int) = true) (hC : C11.CLst w ca cs) :
    Calls Tryd.prog 25 #[.agg (fcs m (.slice aa na ka) (.slice ab nb kb) (.slice ga ng kg) (.slice ca nc kc)), .slice oa on oc] w (ChsR (PV old on) cs nc w) := by
  have bw := (Below.refl w.heap.size w).alloc (Nat.le_refl _) (.cells (fcs m (.slice aa na ka) (.slice ab nb kb) (.slice ga ng kg) (.slice ca nc kc)) 29)
  have k1 := Blk.new w (fcs m (.slice aa na ka) (.slice ab nb kb) (.slice ga ng kg) (.slice ca nc kc)) 29
  obtain ⟨V1, hV1⟩ : ∃ V, w.alloc (.cells (fcs m (.slice aa na ka) (.slice ab nb kb) (.slice ga ng kg) (.slice ca nc kc)) 29) = V := ⟨_, rfl⟩
  have hn4' : (ng : Int) ≤ 4096 := by omega
  have hc4 : nc ≤ 4096 := by rw [← hnc]; exact (C11.gooB_iff.1 hgo).1
  have hc4' : (nc : Int) ≤ 4096 := by omega
  have ho4' : (on : Int) ≤ 4096 := by omega
  have MK := Go.Proofs.YthnpnkiomknkeaaDoor.make_ints ng (by omega)
  have HB1 := hide (show Below w.heap.size w V1 from hV1 ▸ bw)
  have HK1 := hide (show Blk V1 w.heap.size (fcs m (.slice aa na ka) (.slice ab nb kb) (.slice ga ng kg) (.slice ca nc kc)) 29 from hV1 ▸ k1)
  have HO1 := hide (hO.below HB1.out)
  have HC1 := hide (hC.below HB1.out)
  have HON := hide hon
  have HNC := hide hnc
  have HLT := hide hlt
  have HFT := hide (fun i hi => fit_of hgo (i := i) hi)
  have HSZ := hide (show V1.heap.size = w.heap.size + 1 by rw [← hV1]; simp)
  have HS0 := hide (show Blk (V1.alloc (.cells (Array.replicate ng (.int .i64 0)) 3)) V1.heap.size (ilA (List.replicate ng 0)) 3 ∧ Below V1.heap.size V1 (V1.alloc (.cells (Array.replicate ng (.int .i64 0)) 3)) from ⟨by rw [← ilA_zero]; exact Blk.new V1 _ _, (Below.refl _ _).alloc (Nat.le_refl _) _⟩)
  obtain ⟨V2, hV2⟩ : ∃ V, V1.alloc (.cells (Array.replicate ng (.int .i64 0)) 3) = V := ⟨_, rfl⟩
  rw [hV2] at HS0
  rw [← hV1] at hV2
  clear hV1 hn4 hon ho4 hlt hO hnc hgo hC bw k1
  go_enter Tryd.func25, Tryd.ntmps25
  go_wp2_with fail
  rw [← HSZ.out]
  clear MK hV2
  go_loopw [20] (fun vi wr => ∃ k : Nat, vi = .int .i64 (k : Int) ∧ Hid (k ≤ on ∧ ∃ o, Blk wr V1.heap.size (ilA o) 3 ∧ o.length = ng ∧ (∀ j, j < ng → o.getD j 0 = PV old k j) ∧ Below V1.heap.size V1 wr)) (fun vi _ => on - (intOf vi).toNat)
  case atStart => exact ⟨0, rfl, hide ⟨by omega, _, HS0.out.1, by simp, fun j hj => by rw [rep_get]; rfl, HS0.out.2⟩⟩
  case round =>
    clear HS0
    obtain ⟨k, rfl, HV⟩ := hrel
    obtain ⟨hk, o, hO, hol, hS, hb⟩ := HV.out
    have hk0 : (0 : Int) ≤ (k : Int) := by omega
    clear HV
    by_cases hlt : k < on
    case pos =>
      have hlt' : (k : Int) < (on : Int) := by omega
      obtain ⟨pb, po, rfl, hpb, hpc⟩ := ints_cell (HO1.out.below hb) (k := k) (by rw [HON.out]; exact hlt)
      have hpm : old.getD k 0 ∈ old := by
        rw [List.getD_eq_getElem?_getD, List.getElem?_eq_getElem (by rw [HON.out]; exact hlt)]
        exact List.getElem_mem _
      have hpl := HLT.out _ hpm
      have HQ := hide (show ∀ x, x = old.getD k 0 → (∀ j, j < ng → (o.set x (k : Int)).getD j 0 = PV old (k + 1) j) from fun x hx j hj => by
        rw [set_get o x j _ (by rw [hol, hx]; exact hpl), PV, ← hx, hS j hj])
      generalize old.getD k 0 = p at hpc hpl HQ
      have HQ2 := hide (HQ.out p rfl)
      have hpl' : (p : Int) < (ng : Int) := by omega
      have hp0 : (0 : Int) ≤ (p : Int) := by omega
      have nc1 := hO.cell p
      rw [ilA_at o p (by rw [hol]; exact hpl)] at nc1
      have nf := hO.frozen p
      have nl := hO.lt
      have HE := hide (show Blk (wr.setCell ⟨V1.heap.size, p, none⟩ (.int .i64 (k : Int))) V1.heap.size (ilA (o.set p (k : Int))) 3 ∧ (o.set p (k : Int)).length = ng ∧ Below V1.heap.size V1 (wr.setCell ⟨V1.heap.size, p, none⟩ (.int .i64 (k : Int))) from ⟨by rw [← ilA_set]; exact hO.set p _, by rw [List.length_set]; exact hol, hb.setCell (p := ⟨V1.heap.size, p, none⟩) (Nat.le_refl _) _⟩)
      clear hO hol hS hb hk hlt HQ hpm hpl
      go_wp2_with fail
      go_roundw
      case rel => exact ⟨k + 1, by go_num, hide ⟨by omega, _, HE.out.1, HE.out.2.1, HQ2.out, HE.out.2.2⟩⟩
      case measure => simp [intOf]; omega
    case neg =>
      obtain rfl : k = on := by omega
      have hlt' : ¬ (k : Int) < (k : Int) := by omega
      have e12 := (HK1.out.below hb).cell 12
      simp at e12
      have xlt := (HK1.out.below hb).lt
      have HPL := hide (show Blk wr V1.heap.size (ilA o) 3 ∧ o.length = ng ∧ (∀ j, j < ng → o.getD j 0 = PV old k j) from ⟨hO, hol, hS⟩)
      have HBV := hide hb
      have HPB := hide (fun j => PV_bd old k j)
      obtain ⟨P, hPE⟩ : ∃ P, PV old k = P := ⟨_, rfl⟩
      rw [hPE] at HPL HPB
      have HPE := hide hPE
      clear hPE
      obtain ⟨V, hV⟩ : ∃ V, wr = V := ⟨_, rfl⟩
      rw [hV] at HPL HBV e12 xlt ⊢
      have HC2 := hide (HC1.out.below HBV.out)
      clear hO hol hS hb hk hlt hV
      go_wp2_with fail
      clear e12 xlt
      go_loopw [9, 33] (fun a vi wr => ∃ i : Nat, vi = .int .i64 (i : Int) ∧ Hid (i ≤ nc ∧ C11.CRow wr V.heap.size a (chC P cs i) ∧ (chC P cs i).length ≤ 4096 ∧ SC (chC P cs i) ∧ Below V.heap.size V wr)) (fun _ vi _ => nc - (intOf vi).toNat)
      case atStart => exact ⟨0, rfl, hide ⟨by omega, C11.CRow.nil _ _, by simp [chC], fun x hx => by simp [chC] at hx, Below.refl _ _⟩⟩
      case round =>
        obtain ⟨i, rfl, HV⟩ := hrel
        obtain ⟨hi, hR, hL4, hSC, hb⟩ := HV.out
        have hi0 : (0 : Int) ≤ (i : Int) := by omega
        clear HV
        by_cases hlt : i < nc
        case neg =>
          obtain rfl : i = nc := by omega
          have hlt' : ¬ (i : Int) < (i : Int) := by omega
          have HBE := hide (below_t5 (below_t5 HB1.out HBV.out) hb)
          have HE := hide (show ChsR P cs i w (.returned (.tuple #[u9, .bool true])) wr from ⟨HBE.out, Or.inl ⟨hL4, u9, rfl, crow_low hR (by have := HB1.out.size; have := HBV.out.size; omega)⟩⟩)
          clear hR hL4 hSC hb hi hlt
          go_wp2_with fail
          go_ret2
          rw [HPE.out]
          exact HE.out
        case pos =>
          have hlt' : (i : Int) < (nc : Int) := by omega
          have hfit := HFT.out i (by rw [HNC.out]; exact hlt)
          rcases HC2.out.below hb with hz | ⟨b, of, rfl, hbl, hcell⟩
          · have := HNC.out; rw [hz] at this; simp at this; omega
          obtain ⟨c0, c1, c2⟩ := hcell i (by rw [HNC.out]; exact hlt)
          have HCC := hide (show chC P cs (i + 1) = spC P (cs.getD i C11.c0) (widV (cs.getD i C11.c0)) (chC P cs i) from rfl)
          have HMN := hide (chC_mono P cs (k := i + 1) (m := nc) hlt)
          generalize cs.getD i C11.c0 = x at hfit c0 c1 c2 HCC
          obtain ⟨L2, hL2⟩ : ∃ L2, chC P cs (i + 1) = L2 := ⟨_, rfl⟩
          rw [hL2] at HCC HMN
          have HL2 := hide hL2
          clear hL2
          generalize chC P cs i = L at hR hL4 hSC HCC
          obtain ⟨f, l, g⟩ := x
          obtain ⟨f1, f2, f3, _, f4, f5, f6⟩ := C11.fitB_t.1 hfit
          simp only at c0 c1 c2 f1 f2 f3 f4 f5 f6
          obtain ⟨G, rfl⟩ : ∃ G : Nat, g = (G : Int) := ⟨g.toNat, by omega⟩
          obtain ⟨wd, hwd⟩ : ∃ wd, widV ⟨f, l, (G : Int)⟩ = wd := ⟨_, rfl⟩
          rw [hwd] at HCC
          have hwd2 : (wd : Int) = l - f + 1 := by rw [← hwd]; unfold widV; simp only; omega
          have HWD := hide hwd2
          have hw4 : (wd : Int) ≤ 4096 := by omega
          have HSP := hide (fun j => (show spC P ⟨f, l, (G : Int)⟩ (j + 1) L = if P (G + j) = 0 then spC P ⟨f, l, (G : Int)⟩ j L else addC (spC P ⟨f, l, (G : Int)⟩ j L) (f + j) (P (G + j)) from by rw [spC]; simp))
          have HSL := hide (fun j => spC_len P ⟨f, l, (G : Int)⟩ j L)
          have HS3 := hide (show C11.CRow (wr.alloc (.cells #[.int .i64 f, .int .i64 l, .int .i64 (G : Int)] 70)) V.heap.size u9 (spC P ⟨f, l, (G : Int)⟩ 0 L) ∧ SC (spC P ⟨f, l, (G : Int)⟩ 0 L) ∧ u9.ownBlock ≠ some wr.heap.size ∧ Blk (wr.alloc (.cells #[.int .i64 f, .int .i64 l, .int .i64 (G : Int)] 70)) wr.heap.size #[.int .i64 f, .int .i64 l, .int .i64 (G : Int)] 70 ∧ Below V.heap.size V (wr.alloc (.cells #[.int .i64 f, .int .i64 l, .int .i64 (G : Int)] 70)) from
            ⟨hR.kept (fun j _ hj => Below.heap_alloc _ _ _ hj), hSC, crow_own hR (Nat.le_refl _), Blk.new _ _ _, hb.alloc hb.size _⟩)
          have HL4 := hide hL4
          have HNB := hide (show V1.heap.size < V.heap.size from HPL.out.1.lt)
          clear hfit hwd hR hL4 hSC hb hi hlt hcell
          go_wp2_with fail
          generalize wr.alloc (.cells #[.int .i64 f, .int .i64 l, .int .i64 (G : Int)] 70) = W3 at HS3 ⊢
          generalize wr.heap.size = cb at HS3 ⊢
          clear c0 c1 c2
          go_loopw [9, 43] (fun a2 vj wr => ∃ j : Nat, vj = .int .i64 (j : Int) ∧ Hid (j ≤ wd ∧ C11.CRow wr V.heap.size a2 (spC P ⟨f, l, (G : Int)⟩ j L) ∧ SC (spC P ⟨f, l, (G : Int)⟩ j L) ∧ a2.ownBlock ≠ some cb ∧ Blk wr cb #[.int .i64 f, .int .i64 l, .int .i64 (G : Int)] 70 ∧ Below V.heap.size V wr)) (fun _ vj _ => wd - (intOf vj).toNat)
          case atStart => exact ⟨0, rfl, hide ⟨by omega, HS3.out⟩⟩
          case round =>
            clear HS3
            obtain ⟨j, rfl, HV⟩ := hrel
            obtain ⟨hj, hR, hSC, hown, hcb, hb⟩ := HV.out
            have hj0 : (0 : Int) ≤ (j : Int) := by omega
            clear HV
            have hcb0 := hcb.cell 0
            have hcb1 := hcb.cell 1
            have hcb2 := hcb.cell 2
            simp at hcb0 hcb1 hcb2
            have hcbl := hcb.lt
            have HB := hide hb
            have HCB := hide hcb
            have HOW := hide hown
            have HSC := hide hSC
            have HR := hide hR
            by_cases hlt : j < wd
            case pos =>
              have hlt' : (j : Int) < l - f + 1 := by omega
              have ht : ((G : Int) + (j : Int)).toNat = G + j := by omega
              have hi1 : (0 : Int) ≤ (G : Int) + (j : Int) := by omega
              have hi2 : (G : Int) + (j : Int) < (ng : Int) := by omega
              have kb := HPL.out.1.kept hb HNB.out
              have nc1 := kb.cell (G + j)
              rw [ilA_at _ _ (by rw [HPL.out.2.1]; omega), HPL.out.2.2 _ (by omega)] at nc1
              have nl := kb.lt
              have HSJ := hide (HSP.out j)
              have hpb := HPB.out (G + j)
              generalize P (G + j) = z at nc1 HSJ hpb
              by_cases hz0 : z = 0
              · subst hz0
                rw [if_pos rfl] at HSJ
                clear hR hSC hown hcb hb kb hj hlt
                go_wp2_with fail
                go_roundw
                case rel => exact ⟨j + 1, by go_num, hide ⟨by omega, by rw [HSJ.out]; exact HR.out, by rw [HSJ.out]; exact HSC.out, HOW.out, HCB.out, HB.out⟩⟩
                case measure => simp [intOf]; omega
              · rw [if_neg hz0] at HSJ
                have hz1 : (z == 0) = false := by simp [hz0]
                have CS := hide (shownBy_any u9 (spC P ⟨f, l, (G : Int)⟩ j L) V.heap.size (f + (j : Int)) z wr hR hb.size (by have := (HSL.out j).2; have := HL4.out; omega) hSC)
                have HSA := hide (SC_add hSC (c := f + (j : Int)) (g := z) (by unfold SB; omega) (by unfold SB; omega))
                clear hR hSC hown hcb hb kb hj hlt
                go_wp2_with fail
                refine CS.out.mono ?_
                rintro e w5 ⟨v', rfl, r1, r2, r3, r4⟩
                have HN := hide (show C11.CRow w5 V.heap.size v' (spC P ⟨f, l, (G : Int)⟩ (j + 1) L) ∧ SC (spC P ⟨f, l, (G : Int)⟩ (j + 1) L) ∧ v'.ownBlock ≠ some cb ∧ Blk w5 cb #[.int .i64 f, .int .i64 l, .int .i64 (G : Int)] 70 ∧ Below V.heap.size V w5 from by
                  refine ⟨by rw [HSJ.out]; exact r1, by rw [HSJ.out]; exact HSA.out, ?_, ?_, HB.out.trans r2⟩
                  · rcases r3 with r3 | ⟨g', r3, hg'⟩
                    · rw [r3]; exact HOW.out
                    · rw [r3]
                      intro e
                      injection e with e
                      omega
                  · have := HCB.out
                    unfold Blk at this ⊢
                    rw [r4 cb hcbl HOW.out]
                    exact this)
                clear r1 r2 r3 r4 hcb0 hcb1 hcb2 hcbl nc1 nl
                go_wp2_with fail
                go_roundw
                case rel => exact ⟨j + 1, by go_num, hide ⟨by omega, HN.out⟩⟩
                case measure => simp [intOf]; omega
            case neg =>
              obtain rfl : j = wd := by omega
              have hlt' : ¬ (j : Int) < l - f + 1 := by omega
              rw [← HCC.out] at hR hSC HR HSC
              obtain ⟨ia, cap, rfl⟩ := crow_slice hR
              have HLW := hide (show L2.length ≤ 8192 by rw [HCC.out]; have := (HSL.out j).2; have := HL4.out; omega)
              by_cases h4 : L2.length ≤ 4096
              · have h4' : ¬ (4096 : Int) < (L2.length : Int) := by omega
                clear hR hSC hown hcb hb hj hlt
                go_wp2_with fail
                go_roundw
                case rel => exact ⟨i + 1, by go_num, hide ⟨by omega, by rw [HL2.out]; exact HR.out, by rw [HL2.out]; exact h4, by rw [HL2.out]; exact HSC.out, HB.out⟩⟩
                case measure => simp [intOf]; omega
              · have h4' : (4096 : Int) < (L2.length : Int) := by omega
                have HE := hide (show ChsR P cs nc w (.returned (.tuple #[.slice none 0 0, .bool false])) wr from ⟨below_t5 (below_t5 HB1.out HBV.out) hb, Or.inr ⟨by have := HMN.out; omega, rfl⟩⟩)
                clear hR hSC hown hcb hb hj hlt
                go_wp2_with fail
                go_ret2
                rw [HPE.out]
                exact HE.out
theorem blk13 {w : World} {F : Nat} {c0 c1 c2 c3 c4 c5 c6 c7 c8 c9 c10 c11 c12 : Value} {t : TypeId} (h : Blk w F #[c0, c1, c2, c3, c4, c5, c6, c7, c8, c9, c10, c11, c12] t) : w.cell? ⟨F, 0, none⟩ = some c0 ∧ w.cell? ⟨F, 1, none⟩ = some c1 ∧ w.cell? ⟨F, 2, none⟩ = some c2 ∧ w.cell? ⟨F, 3, none⟩ = some c3 ∧ w.cell? ⟨F, 4, none⟩ = some c4 ∧ w.cell? ⟨F, 5, none⟩ = some c5 ∧ w.cell? ⟨F, 6, none⟩ = some c6 ∧ w.cell? ⟨F, 7, none⟩ = some c7 ∧ w.cell? ⟨F, 8, none⟩ = some c8 ∧ w.cell? ⟨F, 9, none⟩ = some c9 ∧ w.cell? ⟨F, 10, none⟩ = some c10 ∧ w.cell? ⟨F, 11, none⟩ = some c11 ∧ w.cell? ⟨F, 12, none⟩ = some c12 ∧ w.frozen? ⟨F, 0, none⟩ = false ∧ w.frozen? ⟨F, 1, none⟩ = false ∧ w.frozen? ⟨F, 2, none⟩ = false ∧ w.frozen? ⟨F, 3, none⟩ = false ∧ w.frozen? ⟨F, 4, none⟩ = false ∧ w.frozen? ⟨F, 5, none⟩ = false ∧ w.frozen? ⟨F, 6, none⟩ = false ∧ w.frozen? ⟨F, 7, none⟩ = false ∧ w.frozen? ⟨F, 8, none⟩ = false ∧ w.frozen? ⟨F, 9, none⟩ = false ∧ w.frozen? ⟨F, 10, none⟩ = false ∧ w.frozen? ⟨F, 11, none⟩ = false ∧ w.frozen? ⟨F, 12, none⟩ = false ∧ F < w.heap.size :=
  ⟨by simpa using h.cell 0, by simpa using h.cell 1, by simpa using h.cell 2, by simpa using h.cell 3, by simpa using h.cell 4, by simpa using h.cell 5, by simpa using h.cell 6, by simpa using h.cell 7, by simpa using h.cell 8, by simpa using h.cell 9, by simpa using h.cell 10, by simpa using h.cell 11, by simpa using h.cell 12, h.frozen 0, h.frozen 1, h.frozen 2, h.frozen 3, h.frozen 4, h.frozen 5, h.frozen 6, h.frozen 7, h.frozen 8, h.frozen 9, h.frozen 10, h.frozen 11, h.frozen 12, h.lt⟩
set_option maxHeartbeats 2000000 in
theorem store13g {w : World} {F : Nat} {c0 c1 c2 c3 c4 c5 c6 c7 c8 c9 c10 c11 c12 : Value} {t : TypeId} (h : Blk w F #[c0, c1, c2, c3, c4, c5, c6, c7, c8, c9, c10, c11, c12] t) (v0 v1 v2 v3 v4 v5 v6 v7 v8 v9 v10 v11 v12 : Value) : Blk (((((((((((((w.setCell ⟨F, 0, none⟩ v0).setCell ⟨F, 1, none⟩ v1).setCell ⟨F, 2, none⟩ v2).setCell ⟨F, 3, none⟩ v3).setCell ⟨F, 4, none⟩ v4).setCell ⟨F, 5, none⟩ v5).setCell ⟨F, 6, none⟩ v6).setCell ⟨F, 7, none⟩ v7).setCell ⟨F, 8, none⟩ v8).setCell ⟨F, 9, none⟩ v9).setCell ⟨F, 10, none⟩ v10).setCell ⟨F, 11, none⟩ v11).setCell ⟨F, 12, none⟩ v12) F #[v0, v1, v2, v3, v4, v5, v6, v7, v8, v9, v10, v11, v12] t ∧ But F w (((((((((((((w.setCell ⟨F, 0, none⟩ v0).setCell ⟨F, 1, none⟩ v1).setCell ⟨F, 2, none⟩ v2).setCell ⟨F, 3, none⟩ v3).setCell ⟨F, 4, none⟩ v4).setCell ⟨F, 5, none⟩ v5).setCell ⟨F, 6, none⟩ v6).setCell ⟨F, 7, none⟩ v7).setCell ⟨F, 8, none⟩ v8).setCell ⟨F, 9, none⟩ v9).setCell ⟨F, 10, none⟩ v10).setCell ⟨F, 11, none⟩ v11).setCell ⟨F, 12, none⟩ v12) := by
  refine ⟨?_, ((((((((((((((But.refl F w).trans (But.setCell F _ 0 v0)).trans (But.setCell F _ 1 v1)).trans (But.setCell F _ 2 v2)).trans (But.setCell F _ 3 v3)).trans (But.setCell F _ 4 v4)).trans (But.setCell F _ 5 v5)).trans (But.setCell F _ 6 v6)).trans (But.setCell F _ 7 v7)).trans (But.setCell F _ 8 v8)).trans (But.setCell F _ 9 v9)).trans (But.setCell F _ 10 v10)).trans (But.setCell F _ 11 v11)).trans (But.setCell F _ 12 v12))⟩
  have := Blk.set (Blk.set (Blk.set (Blk.set (Blk.set (Blk.set (Blk.set (Blk.set (Blk.set (Blk.set (Blk.set (Blk.set (Blk.set (h) 0 v0) 1 v1) 2 v2) 3 v3) 4 v4) 5 v5) 6 v6) 7 v7) 8 v8) 9 v9) 10 v10) 11 v11) 12 v12
  simpa using this
theorem irow_below {w w' : World} {B : Nat} {v : Value} {zs : List Int} (h : IRow w B v zs) (hb : Below w.heap.size w w') : IRow w' B v zs := ownsRow_kept h (fun k _ hk => hb.block k hk)
def stA (o : List ByteArray) : Array Value := (o.map Value.string).toArray
theorem stA_at (o : List ByteArray) (j : Nat) (h : j < o.length) : (stA o)[j]? = some (.string (o.getD j ⟨#[]⟩)) := by
  unfold stA
  simp [List.getElem?_eq_getElem h, List.getD_eq_getElem?_getD]
theorem stA_set (o : List ByteArray) (i : Nat) (v : ByteArray) : (stA o).setIfInBounds i (.string v) = stA (o.set i v) := by
  unfold stA
  rw [List.map_set]
  simp
theorem stA_rep (n : Nat) : Array.replicate n (Value.string ⟨#[]⟩) = stA (List.replicate n ⟨#[]⟩) := by
  unfold stA
  simp
theorem stA_no (o : List ByteArray) (j : Nat) (x : Int) : (stA o)[j]? ≠ some (.int .i64 x) := by
  intro e
  have hl : j < o.length := by
    have := (Array.getElem?_eq_some_iff.1 e).1
    simpa [stA] using this
  rw [stA_at o j hl] at e
  cases e
theorem sset_get (o : List ByteArray) (i j : Nat) (v : ByteArray) (hi : i < o.length) : (o.set i v).getD j ⟨#[]⟩ = if j = i then v else o.getD j ⟨#[]⟩ := by
  rw [List.getD_eq_getElem?_getD, List.getD_eq_getElem?_getD, List.getElem?_set]
  by_cases h : i = j
  · subst h; rw [if_pos rfl, if_pos hi, if_pos rfl]; rfl
  · rw [if_neg h, if_neg (fun e => h e.symm)]
theorem sp_eq {f : Nat → ByteArray} {o : List ByteArray} {ps : List Nat} (hl : o.length = ps.length) (h : ∀ j, j < ps.length → o.getD j ⟨#[]⟩ = f (ps.getD j 0)) : o = ps.map f := by
  apply List.ext_getElem?
  intro j
  by_cases hj : j < ps.length
  · have := h j hj
    rw [List.getD_eq_getElem?_getD, List.getElem?_eq_getElem (by omega), List.getD_eq_getElem?_getD, List.getElem?_eq_getElem hj] at this
    rw [List.getElem?_eq_getElem (by omega), List.getElem?_map, List.getElem?_eq_getElem hj]
    simpa using this
  · rw [List.getElem?_eq_none (by omega), List.getElem?_eq_none (by simp; omega)]
def rnS (gs : List ByteArray) (old : List Nat) (g : Nat) : ByteArray := match G10.renV (gs.getD g ⟨#[]⟩).data.toList (G10.ints old) (G10.shV (gs.getD g ⟨#[]⟩).data.toList) with
  | none => ⟨#[]⟩
  | some m => ⟨m.toArray⟩
def R7 (w3 : World) (m : Mt) (aa ab : Option Addr) (na nb ka kb on : Nat) (ca2 : Option Addr) (ln cap2 : Nat) (s11 : Value) (wc : World) : Prop := ∃ pb gb, s11 = .pointer (some ⟨pb, 0, none⟩) ∧ Blk wc pb (fcs m (.slice aa na ka) (.slice ab nb kb) (.slice (some ⟨gb, 0, none⟩) on on) (.slice ca2 ln cap2)) 29 ∧ Blk wc gb (Array.replicate on (.string ⟨#[]⟩)) 9 ∧ pb ≠ gb ∧ w3.heap.size ≤ pb ∧ w3.heap.size ≤ gb ∧ Below w3.heap.size w3 wc
def R9 (w3 : World) (m : Mt) (old : List Nat) (on pb gb : Nat) (ca2 : Option Addr) (ln cap2 : Nat) (G : Array Value) (wc : World) : Prop := ∃ p q, Blk wc pb (fcs { m with lg := true } (.slice (some ⟨p, 0, none⟩) on on) (.slice (some ⟨q, 0, none⟩) on on) (.slice (some ⟨gb, 0, none⟩) on on) (.slice ca2 ln cap2)) 29 ∧ Blk wc gb G 9 ∧ Lst wc (some ⟨p, 0, none⟩) (pkV m.ad old) ∧ Lst wc (some ⟨q, 0, none⟩) (pkV m.be old) ∧ pb < p ∧ pb < q ∧ Below w3.heap.size w3 wc
theorem r9_mk {w3 : World} {m : Mt} {old : List Nat} {on pb gb : Nat} {ca2 : Option Addr} {ln cap2 : Nat} {G : Array Value} {y : World} {p q : Nat} {va vb : Value} (kp : Blk y pb (fcs { m with lg := true } va vb (.slice (some ⟨gb, 0, none⟩) on on) (.slice ca2 ln cap2)) 29) (kg : Blk y gb G 9) (hne : pb ≠ gb) (hp3 : w3.heap.size ≤ pb) (hb : Below w3.heap.size w3 y)
    (h1 : Lst y (some ⟨p, 0, none⟩) (pkV m.ad old) ∧ pb < p) (h2 : Lst y (some ⟨q, 0, none⟩) (pkV m.be old) ∧ pb < q) :
    R9 w3 m old on pb gb ca2 ln cap2 G ((y.setCell ⟨pb, 9, none⟩ (.slice (some ⟨p, 0, none⟩) on on)).setCell ⟨pb, 10, none⟩ (.slice (some ⟨q, 0, none⟩) on on)) := by
  have hb2 : But pb y ((y.setCell ⟨pb, 9, none⟩ (.slice (some ⟨p, 0, none⟩) on on)).setCell ⟨pb, 10, none⟩ (.slice (some ⟨q, 0, none⟩) on on)) := ((But.refl pb y).trans (But.setCell _ _ _ _)).trans (But.setCell _ _ _ _)
  refine ⟨p, q, ?_, (kg.other (Ne.symm hne) 9 _).other (Ne.symm hne) 10 _, h1.1.but hb2 (by omega), h2.1.but hb2 (by omega), h1.2, h2.2, (hb.setCell (p := ⟨pb, 9, none⟩) hp3 _).setCell (p := ⟨pb, 10, none⟩) hp3 _⟩
  have := (kp.set 9 (.slice (some ⟨p, 0, none⟩) on on)).set 10 (.slice (some ⟨q, 0, none⟩) on on)
  simpa using this
def OkR (m : Mt) (gs : List ByteArray) (cs : List C11.Ch) (old : List Nat) (w : World) (e : Ending) (w' : World) : Prop :=
  (4096 < (chC (PV old old.length) cs cs.length).length ∧ e = .returned (.tuple #[.agg zf, .slice none 0 0, .int .i64 110])) ∨
  ((chC (PV old old.length) cs cs.length).length ≤ 4096 ∧ ∃ vo p q g a cap, e = .returned (.tuple #[.agg (fcs { m with lg := true } (.slice (some ⟨p, 0, none⟩) old.length old.length) (.slice (some ⟨q, 0, none⟩) old.length old.length) (.slice (some ⟨g, 0, none⟩) old.length old.length) (.slice a (chC (PV old old.length) cs cs.length).length cap)), vo, .int .i64 0]) ∧
    Lst w' (some ⟨p, 0, none⟩) (pkV m.ad old) ∧ Lst w' (some ⟨q, 0, none⟩) (pkV m.be old) ∧ G10.SLst w' (some ⟨g, 0, none⟩) (old.map (rnS gs old)) ∧ C11.CLst w' a (chC (PV old old.length) cs cs.length) ∧ IRow w' w.heap.size vo (G10.ints old))
def MkR (m : Mt) (gs : List ByteArray) (cs : List C11.Ch) (zs : List Int) (n : Nat) (w : World) (e : Ending) (w' : World) : Prop := Below w.heap.size w w' ∧
  ((ckV m gs cs ≠ 0 ∧ e = .returned (.tuple #[.agg zf, .slice none 0 0, .int .i64 (ckV m gs cs)])) ∨
   (ckV m gs cs = 0 ∧ usV zs n = none ∧ e = .returned (.tuple #[.agg zf, .slice none 0 0, .int .i64 1])) ∨
   (∃ pss us o, ckV m gs cs = 0 ∧ cpV gs = some pss ∧ usV zs n = some us ∧ Cls pss (0 :: us) n o ∧ OkR m gs cs (plV o n) w e w'))
set_option maxRecDepth 8000 in
set_option maxHeartbeats 16000000 in
theorem make_any (m : Mt) (aa ab ga ca ua : Option Addr) (na nb ng nc ka kb kg kc un uc : Nat) (gs : List ByteArray) (cs : List C11.Ch) (zs : List Int) (w : World) (hna : m.ad.length = na) (hnb : m.be.length = nb) (hng : gs.length = ng) (hnc : cs.length = nc) (hma : na ≤ 1000000) (hmb : nb ≤ 1000000) (hmg : ng ≤ 1000000) (hmc : nc ≤ 1000000) (hz : ∀ g ∈ gs, g.size ≤ 1000000) (hA : Lst w aa m.ad) (hB : Lst w ab m.be) (hG : G10.SLst w ga gs) (hC : C11.CLst w ca cs) (hun : zs.length = un) (hum : un ≤ 1000000) (hU : Lst w ua zs) :
    Calls Tryd.prog 12 #[.agg (fcs m (.slice aa na ka) (.slice ab nb kb) (.slice ga ng kg) (.slice ca nc kc)), .slice ua un uc] w (MkR m gs cs zs ng w) := by
  have bw := ((Below.refl w.heap.size w).alloc (Nat.le_refl _) (.cells (fcs m (.slice aa na ka) (.slice ab nb kb) (.slice ga ng kg) (.slice ca nc kc)) 29)).alloc (by simp) (.cells zf 29)
  have k1 := (Blk.new w (fcs m (.slice aa na ka) (.slice ab nb kb) (.slice ga ng kg) (.slice ca nc kc)) 29).below ((Below.refl _ _).alloc (Nat.le_refl _) (.cells zf 29))
  have k2 := Blk.new (w.alloc (.cells (fcs m (.slice aa na ka) (.slice ab nb kb) (.slice ga ng kg) (.slice ca nc kc)) 29)) zf 29
  rw [show (w.alloc (.cells (fcs m (.slice aa na ka) (.slice ab nb kb) (.slice ga ng kg) (.slice ca nc kc)) 29)).heap.size = w.heap.size + 1 by simp] at k2
  obtain ⟨U, hU1⟩ : ∃ U, (w.alloc (.cells (fcs m (.slice aa na ka) (.slice ab nb kb) (.slice ga ng kg) (.slice ca nc kc)) 29)).alloc (.cells zf 29) = U := ⟨_, rfl⟩
  rw [hU1] at bw k1 k2
  have HSZ := hide (show U.heap.size = w.heap.size + 1 + 1 by rw [← hU1]; simp)
  have CC := hide (close_any m aa ab ga ca ua na nb ng nc ka kb kg kc un uc gs cs zs U hna hnb hng hnc hma hmb hmg hmc hz (hA.below bw) (hB.below bw) (hG.below bw) (hC.below bw) hun hum (hU.below bw))
  have HB1 := hide bw
  have HK1 := hide k1
  have HR1 := hide k2
  have HA1 := hide (hA.below bw)
  have HB1' := hide (hB.below bw)
  have HG1 := hide (hG.below bw)
  have HC1 := hide (hC.below bw)
  have HNA := hide hna
  have HNB := hide hnb
  have HNG := hide hng
  have HNC := hide hnc
  have HZ := hide hz
  have HMA := hide hma
  clear hna hnb hng hnc hma hmb hmg hmc hz hA hB hG hC hun hum hU bw k1 k2
  simp only [fcs, zf] at hU1
  obtain ⟨r0, r1, r2, r3, r4, r5, r6, r7, r8, r9, r10, r11, r12, z0, z1, z2, z3, z4, z5, z6, z7, z8, z9, z10, z11, z12, rlt⟩ := blk13 HK1.out
  go_enter Tryd.func12, Tryd.ntmps12
  go_wp2_with fail
  refine CC.out.mono ?_
  rintro e w1 ⟨h1, hcase⟩
  clear hU1 CC r0 r1 r2 r3 r4 r5 r6 r7 r8 r9 r10 r11 r12 z0 z1 z2 z3 z4 z5 z6 z7 z8 z9 z10 z11 z12 rlt
  have HB2 := hide (below_t5 HB1.out h1)
  have HK2 := hide (HK1.out.below h1)
  have HR2 := hide (HR1.out.below h1)
  have HUZ := hide h1.size
  have HA2 := hide (HA1.out.below h1)
  have HB2' := hide (HB1'.out.below h1)
  have HG2 := hide (HG1.out.below h1)
  have HC2 := hide (HC1.out.below h1)
  obtain ⟨R, hRR⟩ : ∃ R, w.heap.size + 1 = R := ⟨_, rfl⟩
  rw [hRR] at HR2 HSZ ⊢
  have HRW := hide hRR
  have HERR : Hid (∀ (z : Int) (Z : World), But R w1 Z → Below w.heap.size w Z) := hide fun z Z hb => hb.below HB2.out (by omega)
  clear HB1 HK1 HR1 HA1 HB1' HG1 HC1 h1 hRR
  have hc2 : (∃ z : Int, z ≠ 0 ∧ e = .returned (.tuple #[.slice none 0 0, .int .i64 z]) ∧ ∀ Z, Below w.heap.size w Z → MkR m gs cs zs ng w (.returned (.tuple #[.agg zf, .slice none 0 0, .int .i64 z])) Z) ∨ (∃ pss us o v, ckV m gs cs = 0 ∧ cpV gs = some pss ∧ usV zs ng = some us ∧ Cls pss (0 :: us) ng o ∧ e = .returned (.tuple #[v, .int .i64 0]) ∧ IRow w1 U.heap.size v (G10.ints (plV o ng))) := by
    rcases hcase with ⟨h1, h2⟩ | ⟨h1, h2, h3⟩ | h
    · exact Or.inl ⟨_, h1, h2, fun Z hZ => ⟨hZ, Or.inl ⟨h1, rfl⟩⟩⟩
    · exact Or.inl ⟨1, by decide, h3, fun Z hZ => ⟨hZ, Or.inr (Or.inl ⟨h1, h2, rfl⟩)⟩⟩
    · exact Or.inr h
  clear hcase
  rcases hc2 with ⟨z, hz, rfl, hfin⟩ | ⟨pss, us, o, v, hck, hcp, hus, hcl, rfl, hiv⟩
  · have hz1 : (z == 0) = false := by simp [hz]
    have HFN := hide hfin
    clear hfin
    obtain ⟨r0, r1, r2, r3, r4, r5, r6, r7, r8, r9, r10, r11, r12, z0, z1, z2, z3, z4, z5, z6, z7, z8, z9, z10, z11, z12, rlt⟩ := blk13 (show Blk w1 R #[.int .i64 0, .int .i64 0, .int .i64 0, .int .i64 0, .int .i64 0, .int .i64 0, .int .i64 0, .int .i64 0, .bool false, .slice none 0 0, .slice none 0 0, .slice none 0 0, .slice none 0 0] 29 from HR2.out)
    go_wp2_with fail
    have hst := store13g (show Blk w1 R #[.int .i64 0, .int .i64 0, .int .i64 0, .int .i64 0, .int .i64 0, .int .i64 0, .int .i64 0, .int .i64 0, .bool false, .slice none 0 0, .slice none 0 0, .slice none 0 0, .slice none 0 0] 29 from HR2.out) (.int .i64 0) (.int .i64 0) (.int .i64 0) (.int .i64 0) (.int .i64 0) (.int .i64 0) (.int .i64 0) (.int .i64 0) (.bool false) (.slice none 0 0) (.slice none 0 0) (.slice none 0 0) (.slice none 0 0)
    generalize (((((((((((((w1.setCell ⟨R, 0, none⟩ (.int .i64 0)).setCell ⟨R, 1, none⟩ (.int .i64 0)).setCell ⟨R, 2, none⟩ (.int .i64 0)).setCell ⟨R, 3, none⟩ (.int .i64 0)).setCell ⟨R, 4, none⟩ (.int .i64 0)).setCell ⟨R, 5, none⟩ (.int .i64 0)).setCell ⟨R, 6, none⟩ (.int .i64 0)).setCell ⟨R, 7, none⟩ (.int .i64 0)).setCell ⟨R, 8, none⟩ (.bool false)).setCell ⟨R, 9, none⟩ (.slice none 0 0)).setCell ⟨R, 10, none⟩ (.slice none 0 0)).setCell ⟨R, 11, none⟩ (.slice none 0 0)).setCell ⟨R, 12, none⟩ (.slice none 0 0)) = ZW at hst ⊢
    have HE := hide (HFN.out ZW (HERR.out 0 ZW hst.2))
    clear r0 r1 r2 r3 r4 r5 r6 r7 r8 r9 r10 r11 r12 z0 z1 z2 z3 z4 z5 z6 z7 z8 z9 z10 z11 z12 rlt
    obtain ⟨q0, q1, q2, q3, q4, q5, q6, q7, q8, q9, q10, q11, q12, _⟩ := blk13 hst.1
    exact bodyPost_ret (v := .tuple #[.agg zf, .slice none 0 0, .int .i64 z]) (by simp [results, Tryd.results12, go_sem, zf, q0, q1, q2, q3, q4, q5, q6, q7, q8, q9, q10, q11, q12]) rfl HE.out
  · obtain ⟨⟨hn1, hn4⟩, _, _, _, hgd, hlm, hgoo⟩ := ck_in hck
    rw [HNG.out] at hn1 hn4 hlm hgoo
    have HNAB : Hid (m.ad.length = ng ∧ na = ng ∧ m.be.length = ng ∧ nb = ng) := hide (by have h1 := (good_in hgd).2.2.2.2.1; have h2 := HNA.out; have h3 := HNB.out; omega)
    clear hgd
    obtain ⟨old, hold⟩ : ∃ old, plV o ng = old := ⟨_, rfl⟩
    have HFN : Hid (∀ (e : Ending) (Z : World), Below w.heap.size w Z → OkR m gs cs old w e Z → MkR m gs cs zs ng w e Z) := hide fun e Z hb hk => ⟨hb, Or.inr (Or.inr ⟨pss, us, o, hck, hcp, hus, hcl, by rw [hold]; exact hk⟩)⟩
    have holt : ∀ p ∈ old, p < ng := fun p hp => by rw [← hold] at hp; exact plV_lt hp
    have hole : old.length ≤ ng := by rw [← hold]; exact plV_len o ng
    rw [hold] at hiv
    obtain ⟨oa, oc, rfl, hol, hoc, hoc2⟩ := hiv.lst
    rw [G10.ints_len] at hiv hoc ⊢
    obtain ⟨on, hon⟩ : ∃ on, old.length = on := ⟨_, rfl⟩
    rw [hon] at hiv hole hoc ⊢
    have CH := hide (charsOf_any m aa ab ga ca oa na nb ng nc ka kb kg kc on oc cs old w1 hn4 hon (by omega) holt hol HNC.out hgoo HC2.out)
    have HON := hide hon
    have HOI := hide hiv
    have HOL := hide hol
    have HOLT := hide holt
    have HN4 := hide hn4
    have HLM := hide hlm
    have HOC := hide (And.intro hoc hoc2)
    have hn4' : (ng : Int) ≤ 4096 := by omega
    have ho4' : (on : Int) ≤ 4096 := by omega
    have HOE := hide hole
    clear hck hcp hus hcl hiv hgoo hlm hold hol holt hole hon hn1 hn4 o pss us HC2 HERR hoc hoc2
    obtain ⟨r0, r1, r2, r3, r4, r5, r6, r7, r8, r9, r10, r11, r12, z0, z1, z2, z3, z4, z5, z6, z7, z8, z9, z10, z11, z12, rlt⟩ := blk13 HK2.out
    go_wp2_with fail
    refine CH.out.mono ?_
    rintro e w3 ⟨h3, hcase⟩
    clear CH r0 r1 r2 r3 r4 r5 r6 r7 r8 r9 r10 r11 r12 z0 z1 z2 z3 z4 z5 z6 z7 z8 z9 z10 z11 z12 rlt
    have HB3 := hide (below_t5 HB2.out h3)
    have HK3 := hide (HK2.out.below h3)
    have HR3 := hide (HR2.out.below h3)
    have HA3 := hide (HA2.out.below h3)
    have HB3' := hide (HB2'.out.below h3)
    have HG3 := hide (HG2.out.below h3)
    have HOL3 := hide (HOL.out.below h3)
    have HOI3 := hide (irow_below HOI.out h3)
    have HUZ3 := hide (Nat.le_trans HUZ.out h3.size)
    have HERR : Hid (∀ (Z : World), But R w3 Z → Below w.heap.size w Z) := hide fun Z hb => hb.below HB3.out (by have := HRW.out; omega)
    have hw13 := h3.size
    clear HB2 HK2 HR2 HA2 HB2' HG2 HOL HOI h3
    rcases hcase with ⟨hle, vc, rfl, hcr⟩ | ⟨hgt, rfl⟩
    case inr =>
      obtain ⟨r0, r1, r2, r3, r4, r5, r6, r7, r8, r9, r10, r11, r12, z0, z1, z2, z3, z4, z5, z6, z7, z8, z9, z10, z11, z12, rlt⟩ := blk13 (show Blk w3 R #[.int .i64 0, .int .i64 0, .int .i64 0, .int .i64 0, .int .i64 0, .int .i64 0, .int .i64 0, .int .i64 0, .bool false, .slice none 0 0, .slice none 0 0, .slice none 0 0, .slice none 0 0] 29 from HR3.out)
      go_wp2_with fail
      have hst := store13g (show Blk w3 R #[.int .i64 0, .int .i64 0, .int .i64 0, .int .i64 0, .int .i64 0, .int .i64 0, .int .i64 0, .int .i64 0, .bool false, .slice none 0 0, .slice none 0 0, .slice none 0 0, .slice none 0 0] 29 from HR3.out) (.int .i64 0) (.int .i64 0) (.int .i64 0) (.int .i64 0) (.int .i64 0) (.int .i64 0) (.int .i64 0) (.int .i64 0) (.bool false) (.slice none 0 0) (.slice none 0 0) (.slice none 0 0) (.slice none 0 0)
      generalize (((((((((((((w3.setCell ⟨R, 0, none⟩ (.int .i64 0)).setCell ⟨R, 1, none⟩ (.int .i64 0)).setCell ⟨R, 2, none⟩ (.int .i64 0)).setCell ⟨R, 3, none⟩ (.int .i64 0)).setCell ⟨R, 4, none⟩ (.int .i64 0)).setCell ⟨R, 5, none⟩ (.int .i64 0)).setCell ⟨R, 6, none⟩ (.int .i64 0)).setCell ⟨R, 7, none⟩ (.int .i64 0)).setCell ⟨R, 8, none⟩ (.bool false)).setCell ⟨R, 9, none⟩ (.slice none 0 0)).setCell ⟨R, 10, none⟩ (.slice none 0 0)).setCell ⟨R, 11, none⟩ (.slice none 0 0)).setCell ⟨R, 12, none⟩ (.slice none 0 0)) = ZW at hst ⊢
      have HE := hide (HFN.out (.returned (.tuple #[.agg zf, .slice none 0 0, .int .i64 110])) ZW (HERR.out ZW hst.2) (Or.inl ⟨by rw [HON.out, HNC.out]; exact hgt, rfl⟩))
      clear r0 r1 r2 r3 r4 r5 r6 r7 r8 r9 r10 r11 r12 z0 z1 z2 z3 z4 z5 z6 z7 z8 z9 z10 z11 z12 rlt
      obtain ⟨q0, q1, q2, q3, q4, q5, q6, q7, q8, q9, q10, q11, q12, _⟩ := blk13 hst.1
      exact bodyPost_ret (v := .tuple #[.agg zf, .slice none 0 0, .int .i64 110]) (by simp [results, Tryd.results12, go_sem, zf, q0, q1, q2, q3, q4, q5, q6, q7, q8, q9, q10, q11, q12]) rfl HE.out
    case inl =>
      have HLE : Hid ((chC (PV old old.length) cs cs.length).length ≤ 4096) := hide (by rw [HON.out, HNC.out]; exact hle)
      obtain ⟨ca2, cap2, rfl, hcl2⟩ := hcr.lst
      have HCR := hide hcr
      have HCL2 := hide hcl2
      obtain ⟨LL, hLL⟩ : ∃ L, chC (PV old on) cs nc = L := ⟨_, rfl⟩
      rw [hLL] at HCR HCL2 ⊢
      have HLL : Hid (chC (PV old old.length) cs cs.length = LL) := hide (by rw [HON.out, HNC.out]; exact hLL)
      obtain ⟨ln, hln⟩ : ∃ l, LL.length = l := ⟨_, rfl⟩
      rw [hln] at HCR ⊢
      have HLN := hide hln
      clear hle hcr hcl2 hLL hln
      have MS := G10.make_strs on (by omega)
      have HT1 : Hid (∀ x, Below w3.heap.size w3 x → R7 w3 m aa ab na nb ka kb on ca2 ln cap2 (.pointer (some ⟨x.heap.size + 1, 0, none⟩)) ((x.alloc (.cells (Array.replicate on (.string ⟨#[]⟩)) 9)).alloc (.cells (fcs m (.slice aa na ka) (.slice ab nb kb) (.slice (some ⟨x.heap.size, 0, none⟩) on on) (.slice ca2 ln cap2)) 29))) := hide fun x hx => by
        have b1 := (Below.refl x.heap.size x).alloc (Nat.le_refl _) (.cells (Array.replicate on (.string ⟨#[]⟩)) 9)
        have z1 : (x.alloc (.cells (Array.replicate on (.string ⟨#[]⟩)) 9)).heap.size = x.heap.size + 1 := by simp
        refine ⟨x.heap.size + 1, x.heap.size, rfl, by rw [← z1]; exact Blk.new _ _ _, (Blk.new x _ _).below ((Below.refl _ _).alloc (Nat.le_refl _) _), by omega, by have := hx.size; omega, hx.size, (hx.alloc hx.size _).alloc (by have := hx.size; rw [z1]; omega) _⟩
      have HT2 : Hid (∀ x, Below w3.heap.size w3 x → R7 w3 m aa ab na nb ka kb on ca2 ln cap2 (.pointer (some ⟨x.heap.size, 0, none⟩)) ((x.alloc (.cells (fcs m (.slice aa na ka) (.slice ab nb kb) (.slice (some ⟨x.heap.size + 1, 0, none⟩) on on) (.slice ca2 ln cap2)) 29)).alloc (.cells (Array.replicate on (.string ⟨#[]⟩)) 9))) := hide fun x hx => by
        have z1 : (x.alloc (.cells (fcs m (.slice aa na ka) (.slice ab nb kb) (.slice (some ⟨x.heap.size + 1, 0, none⟩) on on) (.slice ca2 ln cap2)) 29)).heap.size = x.heap.size + 1 := by simp
        refine ⟨x.heap.size, x.heap.size + 1, rfl, (Blk.new x _ _).below ((Below.refl _ _).alloc (Nat.le_refl _) _), (by have h9 := Blk.new (x.alloc (.cells (fcs m (.slice aa na ka) (.slice ab nb kb) (.slice (some ⟨x.heap.size + 1, 0, none⟩) on on) (.slice ca2 ln cap2)) 29)) (Array.replicate on (.string ⟨#[]⟩)) 9; rw [z1] at h9; exact h9), by omega, hx.size, by have := hx.size; omega, (hx.alloc hx.size _).alloc (by have := hx.size; rw [z1]; omega) _⟩
      obtain ⟨r0, r1, r2, r3, r4, r5, r6, r7, r8, r9, r10, r11, r12, z0, z1, z2, z3, z4, z5, z6, z7, z8, z9, z10, z11, z12, rlt⟩ := blk13 HK3.out
      go_upto_region 7 with (fail)
      go_cut [11] from 33 to 39 (fun s11 wc => Hid (R7 w3 m aa ab na nb ka kb on ca2 ln cap2 s11 wc))
      case first =>
        go_region
        all_goals
          go_wp2_with fail
          go_meet
          first | exact hide (HT1.out _ (Below.refl _ _).drew) | exact hide (HT2.out _ (Below.refl _ _).drew)
      case rest =>
        clear r0 r1 r2 r3 r4 r5 r6 r7 r8 r9 r10 r11 r12 z0 z1 z2 z3 z4 z5 z6 z7 z8 z9 z10 z11 z12 rlt MS HT1 HT2
        obtain ⟨pb, gb, rfl, kp, kg2, hpg, hp3, hg3, hb3⟩ := hcut.out
        clear hcut
        obtain ⟨r0, r1, r2, r3, r4, r5, r6, r7, r8, r9, r10, r11, r12, z0, z1, z2, z3, z4, z5, z6, z7, z8, z9, z10, z11, z12, rlt⟩ := blk13 kp
        have KP : Hid (Blk (wc.setCell ⟨pb, 8, none⟩ (.bool true)) pb (fcs { m with lg := true } (.slice aa na ka) (.slice ab nb kb) (.slice (some ⟨gb, 0, none⟩) on on) (.slice ca2 ln cap2)) 29) := hide (by have h9 := kp.set 8 (.bool true); simpa using h9)
        have KG := hide (kg2.other (b' := pb) (Ne.symm hpg) 8 (.bool true))
        have HBC := hide (hb3.setCell (p := ⟨pb, 8, none⟩) hp3 (.bool true))
        have HPG := hide (And.intro hpg (And.intro hp3 hg3))
        clear kp kg2 hb3
        go_upto_region 9 with (fail)
        clear r0 r1 r2 r3 r4 r5 r6 r7 r8 r9 r10 r11 r12 z0 z1 z2 z3 z4 z5 z6 z7 z8 z9 z10 z11 z12 rlt
        generalize wc.setCell ⟨pb, 8, none⟩ (.bool true) = V at KP KG HBC ⊢
        have CP : Hid (∀ (la : Option Addr) (lz lc : Nat) (ad : List Int) (u : World), ((la = aa ∧ lz = na ∧ lc = ka ∧ ad = m.ad) ∨ (la = ab ∧ lz = nb ∧ lc = kb ∧ ad = m.be)) → Below w3.heap.size w3 u → Calls Tryd.prog 26 #[.slice la lz lc, .slice oa on oc] u fun e y => ∃ p, e = .returned (.slice (some ⟨p, 0, none⟩) on on) ∧ Lst y (some ⟨p, 0, none⟩) (pkV ad old) ∧ u.heap.size ≤ p ∧ Below u.heap.size u y) := hide fun la lz lc ad u hs hu => by
          have key : ad.length = lz ∧ lz = ng ∧ Lst u la ad := by
            rcases hs with ⟨rfl, rfl, rfl, rfl⟩ | ⟨rfl, rfl, rfl, rfl⟩
            · exact ⟨by have := HNAB.out; omega, HNAB.out.2.1, HA3.out.below hu⟩
            · exact ⟨by have := HNAB.out; omega, HNAB.out.2.2.2, HB3'.out.below hu⟩
          refine (picked_any la oa lz lc on oc ad old u key.1 HON.out (by omega) (by have := key.2.1; omega) (fun p hp => by rw [key.2.1]; exact HOLT.out p hp) key.2.2 (HOL3.out.below hu)).mono ?_
          rintro e y ⟨rfl, hk, hb⟩
          refine ⟨u.heap.size, rfl, Or.inr ⟨u.heap.size, 0, rfl, hk.lt, fun i hi => ?_⟩, Nat.le_refl _, hb⟩
          rw [Nat.zero_add, hk.cell i, ilA_at _ i hi]
        have HXV := hide (Below.refl V.heap.size V)
        have KEEP : Hid (∀ x : World, Below V.heap.size V x → True) := hide (fun _ _ => trivial)
        have HPV : Hid (pb < V.heap.size) := hide KP.out.lt
        have kF := HK3.out.below (below_t5 HBC.out HXV.out)
        have f9 := kF.cell 9
        have f10 := kF.cell 10
        simp at f9 f10
        have flt := kF.lt
        have kP := KP.out
        have p9 := kP.cell 9
        have p10 := kP.cell 10
        simp at p9 p10
        have y9 := kP.frozen 9
        have y10 := kP.frozen 10
        have plt := kP.lt
        clear kF kP
        go_cut [] from 42 to 55 (fun wc => Hid (R9 w3 m old on pb gb ca2 ln cap2 (Array.replicate on (.string ⟨#[]⟩)) wc))
        case first =>
          go_region_with ((go_at_call 26; refine (CP.out _ _ _ _ _ (by first | exact Or.inl ⟨rfl, rfl, rfl, rfl⟩ | exact Or.inr ⟨rfl, rfl, rfl, rfl⟩) (below_t5 HBC.out (by repeat (first | exact HXV.out | refine bdr ?_)))).mono ?_; rintro e y ⟨p, rfl, hl, hp, hy⟩; have HX0 := HXV; have HK0 := KEEP; replace HXV := hide (show Below V.heap.size V y from below_t5 (by repeat (first | exact HX0.out | refine bdr ?_)) hy); replace KEEP := hide (fun (x : World) (hx : Below y.heap.size y x) => And.intro (HK0.out x (below_t5 (below_t5 (by repeat (first | exact Below.refl _ _ | refine bdr ?_)) hy) hx)) (And.intro (hl.below hx) (Nat.lt_of_lt_of_le HPV.out (Nat.le_trans (show Below V.heap.size V _ from (by repeat (first | exact HX0.out | refine bdr ?_))).size hp)))); clear HX0 HK0 hl hp hy f9 f10 flt p9 p10 y9 y10 plt; have kF := HK3.out.below (below_t5 HBC.out HXV.out); have f9 := kF.cell 9; have f10 := kF.cell 10; simp at f9 f10; have flt := kF.lt; have kP := KP.out.below HXV.out; have p9 := kP.cell 9; have p10 := kP.cell 10; simp at p9 p10; have y9 := kP.frozen 9; have y10 := kP.frozen 10; have plt := kP.lt; clear kF kP))
          all_goals
            go_wp2_with fail
            go_meet
            have hl := KEEP.out _ (Below.refl _ _)
            first
              | exact hide (r9_mk (KP.out.below HXV.out) (KG.out.below HXV.out) HPG.out.1 HPG.out.2.1 (below_t5 HBC.out HXV.out) hl.1.2 hl.2)
              | exact hide (r9_mk (KP.out.below HXV.out) (KG.out.below HXV.out) HPG.out.1 HPG.out.2.1 (below_t5 HBC.out HXV.out) hl.2 hl.1.2)
        case rest =>
          clear f9 f10 flt p9 p10 y9 y10 plt HXV KEEP HPV CP
          obtain ⟨p, q, kp, kg2, hlp, hlq, hpp, hpq, hb3⟩ := hcut.out
          clear hcut KP KG HBC
          have HI0 := hide (show Blk wc gb (stA (List.replicate on ⟨#[]⟩)) 9 ∧ Blk wc pb (fcs { m with lg := true } (.slice (some ⟨p, 0, none⟩) on on) (.slice (some ⟨q, 0, none⟩) on on) (.slice (some ⟨gb, 0, none⟩) on on) (.slice ca2 ln cap2)) 29 ∧ Lst wc (some ⟨p, 0, none⟩) (pkV m.ad old) ∧ Lst wc (some ⟨q, 0, none⟩) (pkV m.be old) ∧ Below w3.heap.size w3 wc from ⟨by rw [← stA_rep]; exact kg2, kp, hlp, hlq, hb3⟩)
          have HPQ := hide (And.intro hpp hpq)
          clear kp kg2 hlp hlq hb3 hpp hpq
          go_wp2_with fail
          go_loopw [58] (fun vi wr => ∃ k : Nat, vi = .int .i64 (k : Int) ∧ Hid (k ≤ on ∧ ∃ S, Blk wr gb (stA S) 9 ∧ S.length = on ∧ (∀ j, j < k → S.getD j ⟨#[]⟩ = rnS gs old (old.getD j 0)) ∧ Blk wr pb (fcs { m with lg := true } (.slice (some ⟨p, 0, none⟩) on on) (.slice (some ⟨q, 0, none⟩) on on) (.slice (some ⟨gb, 0, none⟩) on on) (.slice ca2 ln cap2)) 29 ∧ Lst wr (some ⟨p, 0, none⟩) (pkV m.ad old) ∧ Lst wr (some ⟨q, 0, none⟩) (pkV m.be old) ∧ Below w3.heap.size w3 wr)) (fun vi _ => on - (intOf vi).toNat)
          case atStart => exact ⟨0, rfl, hide ⟨by omega, _, HI0.out.1, by simp, fun j hj => absurd hj (by omega), HI0.out.2⟩⟩
          case round =>
            clear HI0
            obtain ⟨k, rfl, HV⟩ := hrel
            obtain ⟨hk, S, kg, hsl, hS, kp, hlp, hlq, hb⟩ := HV.out
            have hk0 : (0 : Int) ≤ (k : Int) := by omega
            clear HV
            by_cases hlt : k < on
            case pos =>
              have hlt' : (k : Int) < (on : Int) := by omega
              obtain ⟨ob, oo, rfl, hob, hoc⟩ := ints_cell (HOL3.out.below hb) (k := k) (by rw [HON.out]; exact hlt)
              have hgm : old.getD k 0 ∈ old := by
                rw [List.getD_eq_getElem?_getD, List.getElem?_eq_getElem (by rw [HON.out]; exact hlt)]
                exact List.getElem_mem _
              have hgn := HOLT.out _ hgm
              obtain ⟨sb, so, rfl, hsb, hsc⟩ : ∃ b o, ga = some ⟨b, o, none⟩ ∧ b < wr.heap.size ∧ wr.cell? ⟨b, o + old.getD k 0, none⟩ = some (.string (gs.getD (old.getD k 0) ⟨#[]⟩)) := by
                rcases HG3.out.below hb with hz | ⟨b, of, h1, h2, h3⟩
                · have := HNG.out; rw [hz] at this; simp at this; omega
                · exact ⟨b, of, h1, h2, h3 _ (by rw [HNG.out]; exact hgn)⟩
              have hgz : (gs.getD (old.getD k 0) ⟨#[]⟩).size ≤ 1000000 := HZ.out _ (by
                rw [List.getD_eq_getElem?_getD, List.getElem?_eq_getElem (by rw [HNG.out]; exact hgn)]; exact List.getElem_mem _)
              have CR : Hid (∀ u, Below w3.heap.size w3 u → Calls Tryd.prog 27 #[.string (gs.getD (old.getD k 0) ⟨#[]⟩), .slice (some ⟨ob, oo, none⟩) on oc] u fun e y => ∃ er : Int, e = .returned (.tuple #[.string (rnS gs old (old.getD k 0)), .int .i64 er]) ∧ Below u.heap.size u y) := hide fun u hu =>
                (G10.renum_any _ _ on oc (G10.ints old) u hgz (by rw [G10.ints_len]; exact HON.out) (by omega) HOC.out.1 HOC.out.2 (HOL3.out.below hu)).mono fun e y h => by
                  unfold G10.RnR at h
                  unfold rnS
                  cases hr : G10.renV (gs.getD (old.getD k 0) ⟨#[]⟩).data.toList (G10.ints old) (G10.shV (gs.getD (old.getD k 0) ⟨#[]⟩).data.toList) with
                  | none => rw [hr] at h; exact ⟨100, h⟩
                  | some l => rw [hr] at h; exact ⟨0, h⟩
              have HSS : Hid (∀ j, j < k + 1 → (S.set k (rnS gs old (old.getD k 0))).getD j ⟨#[]⟩ = rnS gs old (old.getD j 0)) := hide fun j hj => by
                rw [sset_get S k j _ (by rw [hsl]; exact hlt)]
                by_cases e : j = k
                · rw [if_pos e, e]
                · rw [if_neg e]; exact hS j (by omega)
              generalize rnS gs old (old.getD k 0) = rs at CR HSS
              generalize gs.getD (old.getD k 0) ⟨#[]⟩ = gstr at CR hsc hgz
              generalize old.getD k 0 = gk at hoc hgn hsc
              have hgn' : (gk : Int) < (ng : Int) := by omega
              have hg0 : (0 : Int) ≤ (gk : Int) := by omega
              have HSL : Hid ((S.set k rs).length = on) := hide (by rw [List.length_set]; exact hsl)
              have HPUT : Hid (∀ y, Below wr.heap.size wr y → Blk (y.setCell ⟨gb, k, none⟩ (.string rs)) gb (stA (S.set k rs)) 9 ∧ Blk (y.setCell ⟨gb, k, none⟩ (.string rs)) pb (fcs { m with lg := true } (.slice (some ⟨p, 0, none⟩) on on) (.slice (some ⟨q, 0, none⟩) on on) (.slice (some ⟨gb, 0, none⟩) on on) (.slice ca2 ln cap2)) 29 ∧ Lst (y.setCell ⟨gb, k, none⟩ (.string rs)) (some ⟨p, 0, none⟩) (pkV m.ad old) ∧ Lst (y.setCell ⟨gb, k, none⟩ (.string rs)) (some ⟨q, 0, none⟩) (pkV m.be old) ∧ Below w3.heap.size w3 (y.setCell ⟨gb, k, none⟩ (.string rs))) := hide fun y hy =>
                ⟨by rw [← stA_set]; exact (kg.below hy).set k _, (kp.below hy).other HPG.out.1 k _, lst_setB (hlp.below hy) (kg.below hy) k (stA_no S k) _, lst_setB (hlq.below hy) (kg.below hy) k (stA_no S k) _, (below_t5 hb hy).setCell (p := ⟨gb, k, none⟩) HPG.out.2.2 _⟩
              have HBB := hide hb
              have HKP := hide kp
              have HKG : Hid (∀ y, Below wr.heap.size wr y → y.cell? ⟨gb, k, none⟩ = some (.string (S.getD k ⟨#[]⟩)) ∧ y.frozen? ⟨gb, k, none⟩ = false ∧ gb < y.heap.size ∧ y.cell? ⟨pb, 11, none⟩ = some (.slice (some ⟨gb, 0, none⟩) on on) ∧ pb < y.heap.size) := hide fun y hy => ⟨by rw [(kg.below hy).cell k, stA_at S k (by rw [hsl]; exact hlt)], (kg.below hy).frozen k, (kg.below hy).lt, by simpa using (kp.below hy).cell 11, (kp.below hy).lt⟩
              have e11 := (HK3.out.below hb).cell 11
              simp at e11
              have elt := (HK3.out.below hb).lt
              obtain ⟨g1, g2, g3, g4, g5⟩ := HKG.out wr (Below.refl _ _)
              clear kg hsl hS kp hlp hlq hb hk hlt hgm hgz hgn
              go_upto_region 13 with (fail)
              go_region_with ((go_at_call 27; refine (CR.out _ (by repeat (first | exact HBB.out | refine bdr ?_))).mono ?_; rintro e y ⟨er, rfl, hy⟩; have HY := hide (show Below wr.heap.size wr y from below_t5 (by repeat (first | exact Below.refl _ _ | refine bdr ?_)) hy); clear g1 g2 g3 g4 g5 hy; obtain ⟨g1, g2, g3, g4, g5⟩ := HKG.out y HY.out))
              all_goals (
                go_wp2_with fail
                go_roundw
                case rel => exact ⟨k + 1, by go_num, hide ⟨by omega, _, (HPUT.out _ HY.out).1, HSL.out, HSS.out, (HPUT.out _ HY.out).2⟩⟩
                case measure => simp [intOf]; omega)
            case neg =>
              obtain rfl : k = on := by omega
              have hlt' : ¬ (k : Int) < (k : Int) := by omega
              have hSe := sp_eq (f := rnS gs old) (by rw [hsl]; exact HON.out.symm) (fun j hj => hS j (by rw [← HON.out]; exact hj))
              have hRw : R < w3.heap.size := by have := HRW.out; have := HSZ.out; have := HUZ3.out; omega
              have HFIN : Hid (∀ Z, But R wr Z → OkR m gs cs old w (.returned (.tuple #[.agg (fcs { m with lg := true } (.slice (some ⟨p, 0, none⟩) k k) (.slice (some ⟨q, 0, none⟩) k k) (.slice (some ⟨gb, 0, none⟩) k k) (.slice ca2 ln cap2)), .slice oa k oc, .int .i64 0])) Z ∧ Below w.heap.size w Z) := hide fun Z hZ => by
                have h3 := HPG.out.2.1
                have h4 := HPG.out.2.2
                have h5 := HPQ.out
                refine ⟨Or.inr ⟨HLE.out, .slice oa k oc, p, q, gb, ca2, cap2, by rw [HLL.out, HLN.out, HON.out], hlp.but hZ (by omega), hlq.but hZ (by omega), ?_, ?_, ?_⟩, hZ.below (below_t5 HB3.out hb) (by have := HRW.out; omega)⟩
                · have kz := hZ.blk kg (by omega)
                  refine Or.inr ⟨gb, 0, rfl, kz.lt, fun i hi => ?_⟩
                  rw [← hSe] at hi ⊢
                  rw [Nat.zero_add, kz.cell i, stA_at S i hi]
                · rw [HLL.out]
                  refine clst_but (HCL2.out.below hb) hZ ?_
                  by_cases h0 : 0 < LL.length
                  · have hcr := HCR.out
                    rw [← HLN.out] at hcr
                    obtain ⟨g, cap, hv, hg, _⟩ := hcr.shape h0
                    injection hv with e1 _ _
                    exact Or.inr ⟨g, e1, by have := HRW.out; have := HSZ.out; have := HUZ.out; omega⟩
                  · exact Or.inl (List.eq_nil_of_length_eq_zero (by omega))
                · refine irow_low (ownsRow_kept (irow_below HOI3.out hb) (fun j hj hj2 => hZ.block j hj2 (by have := HSZ.out; omega))) (by have := HSZ.out; have := HRW.out; omega)
              have HRQ := hide (show Blk wr R #[.int .i64 0, .int .i64 0, .int .i64 0, .int .i64 0, .int .i64 0, .int .i64 0, .int .i64 0, .int .i64 0, .bool false, .slice none 0 0, .slice none 0 0, .slice none 0 0, .slice none 0 0] 29 from HR3.out.below hb)
              have HKP := hide kp
              clear kg hsl hS kp hlp hlq hb hk hlt hSe hRw
              obtain ⟨r0, r1, r2, r3, r4, r5, r6, r7, r8, r9, r10, r11, r12, z0, z1, z2, z3, z4, z5, z6, z7, z8, z9, z10, z11, z12, rlt⟩ := blk13 HRQ.out
              obtain ⟨s0, s1, s2, s3, s4, s5, s6, s7, s8, s9, s10, s11, s12, t0, t1, t2, t3, t4, t5, t6, t7, t8, t9, t10, t11, t12, slt⟩ := blk13 HKP.out
              go_wp2_with fail
              have hst := store13g HRQ.out (.int .i64 m.up) (.int .i64 m.sc) (.int .i64 m.de) (.int .i64 m.ga) (.int .i64 m.b0) (.int .i64 m.b1) (.int .i64 m.b2) (.int .i64 m.b3) (.bool true) (.slice (some ⟨p, 0, none⟩) k k) (.slice (some ⟨q, 0, none⟩) k k) (.slice (some ⟨gb, 0, none⟩) k k) (.slice ca2 ln cap2)
              generalize (((((((((((((wr.setCell ⟨R, 0, none⟩ (.int .i64 m.up)).setCell ⟨R, 1, none⟩ (.int .i64 m.sc)).setCell ⟨R, 2, none⟩ (.int .i64 m.de)).setCell ⟨R, 3, none⟩ (.int .i64 m.ga)).setCell ⟨R, 4, none⟩ (.int .i64 m.b0)).setCell ⟨R, 5, none⟩ (.int .i64 m.b1)).setCell ⟨R, 6, none⟩ (.int .i64 m.b2)).setCell ⟨R, 7, none⟩ (.int .i64 m.b3)).setCell ⟨R, 8, none⟩ (.bool true)).setCell ⟨R, 9, none⟩ (.slice (some ⟨p, 0, none⟩) k k)).setCell ⟨R, 10, none⟩ (.slice (some ⟨q, 0, none⟩) k k)).setCell ⟨R, 11, none⟩ (.slice (some ⟨gb, 0, none⟩) k k)).setCell ⟨R, 12, none⟩ (.slice ca2 ln cap2)) = ZW at hst ⊢
              have HE := hide (HFN.out _ ZW (HFIN.out ZW hst.2).2 (HFIN.out ZW hst.2).1)
              clear r0 r1 r2 r3 r4 r5 r6 r7 r8 r9 r10 r11 r12 z0 z1 z2 z3 z4 z5 z6 z7 z8 z9 z10 z11 z12 rlt s0 s1 s2 s3 s4 s5 s6 s7 s8 s9 s10 s11 s12 t0 t1 t2 t3 t4 t5 t6 t7 t8 t9 t10 t11 t12 slt
              obtain ⟨q0, q1, q2, q3, q4, q5, q6, q7, q8, q9, q10, q11, q12, _⟩ := blk13 hst.1
              exact bodyPost_ret (v := .tuple #[.agg (fcs { m with lg := true } (.slice (some ⟨p, 0, none⟩) k k) (.slice (some ⟨q, 0, none⟩) k k) (.slice (some ⟨gb, 0, none⟩) k k) (.slice ca2 ln cap2)), .slice oa k oc, .int .i64 0]) (by simp [results, Tryd.results12, go_sem, q0, q1, q2, q3, q4, q5, q6, q7, q8, q9, q10, q11, q12]) rfl HE.out
def tgl : ByteArray := ⟨#[255, 255, 0, 0, 0, 0, 0, 0, 0, 0, 0, 0, 0, 2, 0, 0]⟩
def tM : Mt := ⟨1000, 0, 0, 0, 0, 0, 0, 0, false, [0, 500, 300, 400], [0, 0, 0, 0]⟩
def tG : List ByteArray := [⟨#[]⟩, ⟨#[]⟩, ⟨#[]⟩, tgl]
def tC : List C11.Ch := [⟨97, 99, 1⟩]
theorem t_check : ckV tM tG tC = 0 := by kernel_rfl
theorem t_parts : cpV tG = some [[], [], [], [2]] := by kernel_rfl
theorem t_us : usV [3] 4 = some [3] := by kernel_rfl
theorem t_cls {o : List Bool} (h : Cls [[], [], [], [2]] [0, 3] 4 o) : o = [true, false, true, true] := by
  refine h.uniq ⟨rfl, fun j hj => ?_⟩
  have r0 : rch [[], [], [], [2]] [0, 3] 0 := rch_seed (by simp)
  have r3 : rch [[], [], [], [2]] [0, 3] 3 := rch_seed (by simp)
  have r2 : rch [[], [], [], [2]] [0, 3] 2 := rch_part r3 (show 2 ∈ pt [[], [], [], [2]] 3 by simp [pt])
  have r1 : ¬ rch [[], [], [], [2]] [0, 3] 1 := by
    rintro ⟨k, h⟩
    induction k with
    | zero => simp [rk] at h
    | succ k ih =>
      rcases h with h | ⟨i, _, hi⟩
      · exact ih h
      · unfold pt at hi
        match i, hi with
        | 0, hi => simp at hi
        | 1, hi => simp at hi
        | 2, hi => simp at hi
        | 3, hi => simp at hi
        | i + 4, hi => simp at hi
  match j, hj with
  | 0, _ => exact ⟨fun _ => r0, fun _ => rfl⟩
  | 1, _ => exact ⟨fun h => by simp [yes] at h, fun h => absurd h r1⟩
  | 2, _ => exact ⟨fun _ => r2, fun _ => rfl⟩
  | 3, _ => exact ⟨fun _ => r3, fun _ => rfl⟩
theorem t_old : plV [true, false, true, true] 4 = [0, 2, 3] := by kernel_rfl
theorem t_chars : decide ((chC (PV [0, 2, 3] 3) tC 1).length ≤ 4096) = true := by kernel_rfl
abbrev tCells (w : World) : Array Value := #[.int .i64 1000, .int .i64 0, .int .i64 0, .int .i64 0, .int .i64 0, .int .i64 0, .int .i64 0, .int .i64 0, .bool false, .slice (some ⟨w.heap.size + 1, 0, none⟩) 4 4, .slice (some ⟨w.heap.size + 1 + 1, 0, none⟩) 4 4, .slice (some ⟨w.heap.size + 1 + 1 + 1, 0, none⟩) 4 4, .slice (some ⟨w.heap.size + 1 + 1 + 1 + 1, 0, none⟩) 1 1]
theorem t_begin (w : World) : ∃ V, V = (((((w.alloc (.cells (tCells w) 29)).alloc (.cells #[.int .i64 0, .int .i64 500, .int .i64 300, .int .i64 400] 3)).alloc (.cells #[.int .i64 0, .int .i64 0, .int .i64 0, .int .i64 0] 3)).alloc (.cells #[.string ⟨#[]⟩, .string ⟨#[]⟩, .string ⟨#[]⟩, .string tgl] 9)).alloc (.cells #[.int .i64 97, .int .i64 99, .int .i64 1] 70)) ∧ Lst V (some ⟨w.heap.size + 1, 0, none⟩) tM.ad ∧ Lst V (some ⟨w.heap.size + 1 + 1, 0, none⟩) tM.be ∧ G10.SLst V (some ⟨w.heap.size + 1 + 1 + 1, 0, none⟩) tG ∧ C11.CLst V (some ⟨w.heap.size + 1 + 1 + 1 + 1, 0, none⟩) tC ∧ Below w.heap.size w V := by
  have hal : ∀ (u : World) (o : Obj), Below u.heap.size u (u.alloc o) := fun u o => (Below.refl _ _).alloc (Nat.le_refl _) _
  have sz : ∀ (u : World) (o : Obj), (u.alloc o).heap.size = u.heap.size + 1 := fun u o => by simp
  have b1 := hal w (.cells (tCells w) 29)
  have z1 := sz w (.cells (tCells w) 29)
  generalize w.alloc (.cells (tCells w) 29) = W1 at *
  have k2 := Blk.new W1 #[.int .i64 0, .int .i64 500, .int .i64 300, .int .i64 400] 3
  have b2 := hal W1 (.cells #[.int .i64 0, .int .i64 500, .int .i64 300, .int .i64 400] 3)
  have z2 := sz W1 (.cells #[.int .i64 0, .int .i64 500, .int .i64 300, .int .i64 400] 3)
  rw [z1] at k2 z2
  generalize W1.alloc (.cells #[.int .i64 0, .int .i64 500, .int .i64 300, .int .i64 400] 3) = W2 at *
  have k3 := Blk.new W2 #[.int .i64 0, .int .i64 0, .int .i64 0, .int .i64 0] 3
  have b3 := hal W2 (.cells #[.int .i64 0, .int .i64 0, .int .i64 0, .int .i64 0] 3)
  have z3 := sz W2 (.cells #[.int .i64 0, .int .i64 0, .int .i64 0, .int .i64 0] 3)
  rw [z2] at k3 z3
  generalize W2.alloc (.cells #[.int .i64 0, .int .i64 0, .int .i64 0, .int .i64 0] 3) = W3 at *
  have k4 := Blk.new W3 #[.string ⟨#[]⟩, .string ⟨#[]⟩, .string ⟨#[]⟩, .string tgl] 9
  have b4 := hal W3 (.cells #[.string ⟨#[]⟩, .string ⟨#[]⟩, .string ⟨#[]⟩, .string tgl] 9)
  have z4 := sz W3 (.cells #[.string ⟨#[]⟩, .string ⟨#[]⟩, .string ⟨#[]⟩, .string tgl] 9)
  rw [z3] at k4 z4
  generalize W3.alloc (.cells #[.string ⟨#[]⟩, .string ⟨#[]⟩, .string ⟨#[]⟩, .string tgl] 9) = W4 at *
  have k5 := Blk.new W4 #[.int .i64 97, .int .i64 99, .int .i64 1] 70
  have b5 := hal W4 (.cells #[.int .i64 97, .int .i64 99, .int .i64 1] 70)
  rw [z4] at k5
  have k2' := ((k2.below b3).below b4).below b5
  have k3' := (k3.below b4).below b5
  have k4' := k4.below b5
  refine ⟨_, rfl, Or.inr ⟨_, 0, rfl, k2'.lt, fun i hi => ?_⟩, Or.inr ⟨_, 0, rfl, k3'.lt, fun i hi => ?_⟩, Or.inr ⟨_, 0, rfl, k4'.lt, fun i hi => ?_⟩, Or.inr ⟨_, 0, rfl, k5.lt, fun i hi => ?_⟩, below_t5 (below_t5 (below_t5 (below_t5 b1 b2) b3) b4) b5⟩
  · match i, hi with
    | 0, _ => exact k2'.cell 0
    | 1, _ => exact k2'.cell 1
    | 2, _ => exact k2'.cell 2
    | 3, _ => exact k2'.cell 3
  · match i, hi with
    | 0, _ => exact k3'.cell 0
    | 1, _ => exact k3'.cell 1
    | 2, _ => exact k3'.cell 2
    | 3, _ => exact k3'.cell 3
  · match i, hi with
    | 0, _ => exact k4'.cell 0
    | 1, _ => exact k4'.cell 1
    | 2, _ => exact k4'.cell 2
    | 3, _ => exact k4'.cell 3
  · match i, hi with
    | 0, _ => exact ⟨k5.cell 0, k5.cell 1, k5.cell 2⟩
theorem small_any (w : World) : Calls Tryd.prog 17 #[] w fun e w' => ∃ p q g c, e = .returned (.agg (fcs tM (.slice (some ⟨p, 0, none⟩) 4 4) (.slice (some ⟨q, 0, none⟩) 4 4) (.slice (some ⟨g, 0, none⟩) 4 4) (.slice (some ⟨c, 0, none⟩) 1 1))) ∧ Lst w' (some ⟨p, 0, none⟩) tM.ad ∧ Lst w' (some ⟨q, 0, none⟩) tM.be ∧ G10.SLst w' (some ⟨g, 0, none⟩) tG ∧ C11.CLst w' (some ⟨c, 0, none⟩) tC ∧ Below w.heap.size w w' := by
  obtain ⟨V, hV, h1, h2, h3, h4, h5⟩ := t_begin w
  go_enter Tryd.func17, Tryd.ntmps17
  go_wp2_with fail
  refine bodyPost_ret (v := .agg (fcs tM (.slice (some ⟨w.heap.size + 1, 0, none⟩) 4 4) (.slice (some ⟨w.heap.size + 1 + 1, 0, none⟩) 4 4) (.slice (some ⟨w.heap.size + 1 + 1 + 1, 0, none⟩) 4 4) (.slice (some ⟨w.heap.size + 1 + 1 + 1 + 1, 0, none⟩) 1 1))) (by simp [results, Tryd.results17, go_sem, fcs, tM]) rfl ?_
  refine ⟨_, _, _, _, rfl, ?_⟩
  have e : _ = V := hV.symm
  simp only [tgl] at e
  rw [e]
  exact ⟨h1, h2, h3, h4, h5⟩
theorem t_sz : ∀ g ∈ tG, g.size ≤ 1000000 := fun x hx => by
  simp [tG] at hx
  rcases hx with rfl | rfl
  · decide
  · decide
theorem t_close (p q g c la : Option Addr) (lc : Nat) (u : World) (i1 : Lst u p tM.ad) (i2 : Lst u q tM.be) (i3 : G10.SLst u g tG) (i4 : C11.CLst u c tC) (i5 : Lst u la [3]) :
    Calls Tryd.prog 8 #[.agg (fcs tM (.slice p 4 4) (.slice q 4 4) (.slice g 4 4) (.slice c 1 1)), .slice la 1 lc] u fun e w' => ∃ a cap, e = .returned (.tuple #[.slice a 3 cap, .int .i64 0]) ∧ Lst w' a [0, 2, 3] ∧ Below u.heap.size u w' :=
  (close_any tM p q g c la 4 4 4 1 4 4 4 1 1 lc tG tC [3] u rfl rfl rfl rfl (by omega) (by omega) (by omega) (by omega) t_sz i1 i2 i3 i4 rfl (by omega) i5).mono fun e w' h => by
    obtain ⟨hb, ⟨h1, _⟩ | ⟨_, h1, _⟩ | ⟨pss, us, o, v, _, h2, h3, h4, rfl, h5⟩⟩ := h
    · exact absurd t_check h1
    · rw [t_us] at h1; cases h1
    · rw [t_parts] at h2
      injection h2 with h2
      subst h2
      rw [t_us] at h3
      injection h3 with h3
      subst h3
      rw [t_cls h4, t_old] at h5
      obtain ⟨a, cap, rfl, hl, _⟩ := h5.lst
      exact ⟨a, cap, rfl, hl, hb⟩
theorem t_make (p q g c la : Option Addr) (lc : Nat) (u : World) (i1 : Lst u p tM.ad) (i2 : Lst u q tM.be) (i3 : G10.SLst u g tG) (i4 : C11.CLst u c tC) (i5 : Lst u la [3]) :
    Calls Tryd.prog 12 #[.agg (fcs tM (.slice p 4 4) (.slice q 4 4) (.slice g 4 4) (.slice c 1 1)), .slice la 1 lc] u fun e w' => ∃ p1 q1 g1 c1 n1 k1 a cap, e = .returned (.tuple #[.agg (fcs { tM with lg := true } (.slice p1 3 3) (.slice q1 3 3) (.slice g1 3 3) (.slice c1 n1 k1)), .slice a 3 cap, .int .i64 0]) ∧ Lst w' a [0, 2, 3] ∧ Below u.heap.size u w' :=
  (make_any tM p q g c la 4 4 4 1 4 4 4 1 1 lc tG tC [3] u rfl rfl rfl rfl (by omega) (by omega) (by omega) (by omega) t_sz i1 i2 i3 i4 rfl (by omega) i5).mono fun e w' h => by
    obtain ⟨hb, ⟨h1, _⟩ | ⟨_, h1, _⟩ | ⟨pss, us, o, _, h2, h3, h4, h5⟩⟩ := h
    · exact absurd t_check h1
    · rw [t_us] at h1; cases h1
    · rw [t_parts] at h2
      injection h2 with h2
      subst h2
      rw [t_us] at h3
      injection h3 with h3
      subst h3
      rw [t_cls h4, t_old] at h5
      rcases h5 with ⟨h6, _⟩ | ⟨_, vo, p1, q1, g1, c1, k1, rfl, _, _, _, _, h6⟩
      · have h7 := of_decide_eq_true t_chars
        exact absurd h6 (Nat.not_lt.2 h7)
      · obtain ⟨a, cap, rfl, hl, _⟩ := h6.lst
        exact ⟨_, _, _, _, _, _, a, cap, rfl, hl, hb⟩
set_option maxRecDepth 8000 in
set_option maxHeartbeats 8000000 in
theorem wakes13_any (w : World) : Calls Tryd.prog 6 #[] w fun e w' => e = .returned (.bool true) ∧ Below w.heap.size w w' := by
  have CS := hide small_any
  have CC := hide t_close
  have CM := hide t_make
  have E3 : (#[.int .i64 3] : Array Value) = ([3].map (Value.int .i64)).toArray := rfl
  have E023 : (#[.int .i64 0, .int .i64 2, .int .i64 3] : Array Value) = ([0, 2, 3].map (Value.int .i64)).toArray := rfl
  have L3 := hide (fun (u : World) => lst_new u [3] u.heap.size rfl)
  have L023 := hide (fun (u : World) => lst_new u [0, 2, 3] u.heap.size rfl)
  rw [← E3] at L3
  rw [← E023] at L023
  have KSM := hide (fun (a b : Option Addr) (ca cb : Nat) (u : World) (h1 : Lst u a [0, 2, 3]) (h2 : Lst u b [0, 2, 3]) => G10.ksame_any a b 3 ca cb [0, 2, 3] u rfl (by omega) h1 h2)
  have CP := hide (fun (a : Option Addr) (c : Nat) (u : World) (h : Lst u a [0, 2, 3]) => place_any a 3 c [0, 2, 3] 2 u rfl (by omega) h)
  have EI : Lib.idxOf [0, 2, 3] (2 : Int) = 1 := by kernel_rfl
  have EM : max (1 : Int) 0 = 1 := by decide
  have ED : decide ((0 : Int) ≤ 1) = true := by decide
  rw [EI, EM, ED] at CP
  have hal := hide (fun (u : World) (o : Obj) => (Below.refl u.heap.size u).alloc (Nat.le_refl _) o)
  clear E3 E023 EI EM ED
  simp only [fcs, tM] at CS CC CM
  go_enter Tryd.func6, Tryd.ntmps6
  go_wp2_with fail
  refine (CS.out _).mono ?_
  rintro e w1 ⟨p, q, g, c, rfl, hA, hB, hS, hC, hb1⟩
  have C1 := hide (CC.out (some ⟨p, 0, none⟩) (some ⟨q, 0, none⟩) (some ⟨g, 0, none⟩) (some ⟨c, 0, none⟩) (some ⟨w1.heap.size, 0, none⟩) 1 _ (hA.below (hal.out w1 (.cells #[.int .i64 3] 3))) (hB.below (hal.out w1 (.cells #[.int .i64 3] 3))) (hS.below (hal.out w1 (.cells #[.int .i64 3] 3))) (hC.below (hal.out w1 (.cells #[.int .i64 3] 3))) (L3.out w1))
  have HB1 := hide (below_t5 hb1 (hal.out w1 (.cells #[.int .i64 3] 3)))
  clear hA hB hS hC hb1 CC
  go_wp2_with fail
  refine C1.out.mono ?_
  rintro e w2 ⟨a2, k2, rfl, hl2, hb2⟩
  have HB2 := hide (below_t5 HB1.out hb2)
  have HL2 := hide hl2
  clear hb2 hl2 C1 HB1
  go_wp2_with fail
  refine (CS.out _).mono ?_
  rintro e w3 ⟨p, q, g, c, rfl, hA, hB, hS, hC, hb3⟩
  have C1 := hide (CM.out (some ⟨p, 0, none⟩) (some ⟨q, 0, none⟩) (some ⟨g, 0, none⟩) (some ⟨c, 0, none⟩) (some ⟨w3.heap.size, 0, none⟩) 1 _ (hA.below (hal.out w3 (.cells #[.int .i64 3] 3))) (hB.below (hal.out w3 (.cells #[.int .i64 3] 3))) (hS.below (hal.out w3 (.cells #[.int .i64 3] 3))) (hC.below (hal.out w3 (.cells #[.int .i64 3] 3))) (L3.out w3))
  have hx3 := below_t5 hb3 (hal.out w3 (.cells #[.int .i64 3] 3))
  have HB3 := hide (below_t5 HB2.out hx3)
  have HL3 := hide (HL2.out.below hx3)
  clear hA hB hS hC hb3 CM CS hx3 HB2 HL2 L3
  go_wp2_with fail
  refine C1.out.mono ?_
  rintro e w4 ⟨p1, q1, g1, c1, n1, k1, a4, k4, rfl, hl4, hb4⟩
  have HB4 := hide (below_t5 HB3.out hb4)
  have HL4 := hide hl4
  have HL4' := hide (HL3.out.below hb4)
  clear hb4 hl4 C1 HB3 HL3
  have k5 := Blk.new w4 #[.int .i64 1000, .int .i64 0, .int .i64 0, .int .i64 0, .int .i64 0, .int .i64 0, .int .i64 0, .int .i64 0, .bool true, .slice p1 3 3, .slice q1 3 3, .slice g1 3 3, .slice c1 n1 k1] 29
  have b5 := hal.out w4 (.cells #[.int .i64 1000, .int .i64 0, .int .i64 0, .int .i64 0, .int .i64 0, .int .i64 0, .int .i64 0, .int .i64 0, .bool true, .slice p1 3 3, .slice q1 3 3, .slice g1 3 3, .slice c1 n1 k1] 29)
  obtain ⟨W5, hW5⟩ : ∃ W, w4.alloc (.cells #[.int .i64 1000, .int .i64 0, .int .i64 0, .int .i64 0, .int .i64 0, .int .i64 0, .int .i64 0, .int .i64 0, .bool true, .slice p1 3 3, .slice q1 3 3, .slice g1 3 3, .slice c1 n1 k1] 29) = W := ⟨_, rfl⟩
  rw [hW5] at k5 b5
  have b6 := hal.out W5 (.cells #[.int .i64 0, .int .i64 2, .int .i64 3] 3)
  have C5 := hide (CP.out (some ⟨W5.heap.size, 0, none⟩) 3 _ (L023.out W5))
  have HK5 := hide (k5.below b6)
  have HB6 := hide (below_t5 (below_t5 HB4.out b5) b6)
  have HL2 := hide ((HL4'.out.below b5).below b6)
  have HLO := hide ((HL4.out.below b5).below b6)
  clear k5 b5 b6 HB4 HL4 HL4' CP
  go_wp2_with fail
  refine C5.out.mono ?_
  rintro e w6 ⟨rfl, hw6⟩
  replace hw6 := hw6.symm
  subst hw6
  generalize W5.alloc (.cells #[.int .i64 0, .int .i64 2, .int .i64 3] 3) = W6 at HK5 HB6 HL2 HLO ⊢
  clear C5 hW5
  have b7 := hal.out W6 (.cells #[.int .i64 0, .int .i64 2, .int .i64 3] 3)
  have C7 := hide (KSM.out a2 (some ⟨W6.heap.size, 0, none⟩) k2 3 _ (HL2.out.below b7) (L023.out W6))
  have HK7 := hide (HK5.out.below b7)
  have HB7 := hide (below_t5 HB6.out b7)
  have HL7 := hide (HL2.out.below b7)
  have HLO7 := hide (HLO.out.below b7)
  clear b7 HK5 HB6 HL2 HLO L023
  go_wp2_with fail
  refine C7.out.mono ?_
  rintro e w8 ⟨rfl, n8, hw8⟩
  have g11 := (show Blk w8 w4.heap.size _ _ from by rw [hw8]; exact HK7.out.drewN n8).cell 11
  simp at g11
  have glt := (show Blk w8 w4.heap.size _ _ from by rw [hw8]; exact HK7.out.drewN n8).lt
  have C8 := hide (KSM.out a4 a2 k4 k2 w8 (by rw [hw8]; exact HLO7.out.drewN n8) (by rw [hw8]; exact HL7.out.drewN n8))
  have HB8 := hide (show Below w.heap.size w w8 from by rw [hw8]; exact below_drewN HB7.out n8)
  clear C7 HK7 HB7 HL7 HLO7 KSM hw8
  go_wp2_with fail
  refine C8.out.mono ?_
  rintro e w9 ⟨rfl, n9, hw9⟩
  have HB9 := hide (show Below w.heap.size w w9 from by rw [hw9]; exact below_drewN HB8.out n9)
  clear hw9 C8
  go_wp2_with fail
  go_ret
  exact ⟨rfl, HB9.out⟩
end Go.Proofs.YthnpnkiomknkeaaDoor.S13
