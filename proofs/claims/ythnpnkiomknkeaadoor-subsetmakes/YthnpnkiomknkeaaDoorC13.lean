/-
  Joined: G10Ro, G10Lk, G10Ck, G10Sa, F12B, G10Sp, G10Qa.
-/
import Derived.BigRegion
import Derived.ChangeAlike
import Derived.ChangeKeysEq
import Derived.Deep.CutRange
import Derived.Defers
import Derived.Laws.CopyRow
import Derived.Laws.Pointers
import Derived.Recover
import Derived.RegionTactic
import Derived.Test.YthnpnkiomknkeaaDoorC00
import Derived.Test.YthnpnkiomknkeaaDoorC05
import Derived.Test.YthnpnkiomknkeaaDoorC10
import Derived.Test.YthnpnkiomknkeaaDoorC11
namespace Go.Proofs.YthnpnkiomknkeaaDoor.G10
open Go.RowKit Go.Deep Go.Shelf
set_option linter.unusedVariables false
set_option linter.unusedSimpArgs false
section
variable {P : Program} {md : Region.Mode} {ops : Array Oper} {Q : Exit → Act → World → Prop} {S : World → Prop}
theorem takeW {i d : Nat} {oi : Oper} {v : Value} {fuel : Nat} {listed : Array Bool} {a : Act} {w : World} (hi : ops[i]? = some oi) (hd : oi.dst = some d)
    (hs : Region.noSelect ops = true) (hf : Region.free md ops listed i = true) (hr : (Region.ready md ops listed).contains i = true)
    (hQ : ∀ c a w, Q (.panic c) (a.put (some d) v) w → Q (.panic c) a w) (hw : Region.wanted oi (yielded ops a.tmps) = true) (hy : ∀ w, S w → (execOp a.eval oi).run P w = .ok (.value v) w) (hS : S w)
    (h : wpAnyH P md ops Q S fuel (listed.setIfInBounds i true) (a.put (some d) v) w) : wpAnyH P md ops Q S (fuel + 1) listed a w :=
  wpAnyH_take hi hs hf hr (by rw [hd]; exact hQ) (Or.inl ⟨hw, hy⟩) hS (by rw [hd]; exact h)
end
abbrev zo : Array Value := #[.int .i64 0, .slice none 0 0]
def OlR (b : Nat) (w : World) (R : Option (Nat × List Nat)) (e : Ending) (w' : World) : Prop := match R with
  | some (p, ps) => ∃ v, e = .returned (.agg #[.int .i64 (p : Int), v]) ∧ IRow w' w.heap.size v (ints ps) ∧ But b w w'
  | none => e = thrown ∧ But b w w'
def comW (l : List UInt8) : Option (List Nat × Nat) → Option (List Nat)
  | none => none
  | some (ps, e) => if tailB l e then some ps else none
theorem comV_eq (s : ByteArray) : comV s.data.toList = comW s.data.toList (cmpA s.data.toList s.size 64 10 []) := by
  unfold comV comW
  rw [Lib.size_eq]
  cases cmpA s.data.toList s.data.toList.length 64 10 [] <;> rfl
def simW (l : List UInt8) (N c : Nat) : Option Nat :=
  if ptsB l N c = true then
    match insV l N (10 + 2 * c) with
    | none => none
    | some A => match flg l N (n2 l (8 + 2 * c) + 1) (n2 l (8 + 2 * c) + 1) A 0 with
      | none => none
      | some (E, Z) => if tailB l (E + Z) = true then some (n2 l (8 + 2 * c) + 1) else none
  else none
theorem pts_le {l : List UInt8} {N c : Nat} (h : ptsB l N c = true) : 10 + 2 * c ≤ N := by
  unfold ptsB at h
  rw [Bool.and_eq_true] at h
  simpa using h.1
theorem ins_le {l : List UInt8} {N a A : Nat} (h : insV l N a = some A) : A ≤ N := by
  unfold insV at h
  split at h
  · injection h with h; omega
  · cases h
theorem sim_pts {l : List UInt8} {N c : Nat} (h : ptsB l N c = false) : simW l N c = none := by unfold simW; rw [h]; rfl
theorem sim_ins {l : List UInt8} {N c : Nat} (h : ptsB l N c = true) (hi : insV l N (10 + 2 * c) = none) : simW l N c = none := by unfold simW; rw [h, hi]; rfl
theorem sim_flg {l : List UInt8} {N c A : Nat} (h : ptsB l N c = true) (hi : insV l N (10 + 2 * c) = some A) (hf : flg l N (n2 l (8 + 2 * c) + 1) (n2 l (8 + 2 * c) + 1) A 0 = none) : simW l N c = none := by
  unfold simW; rw [h, hi]; simp only [hf]; rfl
theorem sim_over {s : ByteArray} {c A E Z : Nat} (h : ptsB s.data.toList s.size c = true) (hi : insV s.data.toList s.size (10 + 2 * c) = some A) (hf : flg s.data.toList s.size (n2 s.data.toList (8 + 2 * c) + 1) (n2 s.data.toList (8 + 2 * c) + 1) A 0 = some (E, Z)) (hq : ¬ E + Z ≤ s.size) : simW s.data.toList s.size c = none := by
  unfold simW; rw [h, hi]; simp only [hf]
  have : tailB s.data.toList (E + Z) = false := by
    unfold tailB
    rw [show decide (E + Z ≤ s.data.toList.length) = false by rw [← Lib.size_eq]; simpa using hq]
    rfl
  rw [this]; rfl
theorem sim_last {l : List UInt8} {N c A E Z : Nat} (h : ptsB l N c = true) (hi : insV l N (10 + 2 * c) = some A) (hf : flg l N (n2 l (8 + 2 * c) + 1) (n2 l (8 + 2 * c) + 1) A 0 = some (E, Z)) (hq : E + Z ≤ N) : simW l N c = if tailB l (E + Z) = true then some (n2 l (8 + 2 * c) + 1) else none := by
  unfold simW; rw [h, hi]; simp only [hf]; rfl
theorem simV_eq (s : ByteArray) (c : Nat) : simV s.data.toList c = simW s.data.toList s.size c := by
  unfold simV simW ptsB insV
  rw [← Lib.size_eq]
  by_cases h1 : 12 + 2 * c ≤ s.size
  · have h2 : 10 + 2 * c ≤ s.size := by omega
    cases hr : riseB s.data.toList c
    · simp
    · by_cases h3 : 10 + 2 * c + 2 + n2 s.data.toList (10 + 2 * c) ≤ s.size
      · have h4 : 10 + 2 * c + 2 ≤ s.size := by omega
        rw [if_pos ⟨h1, rfl⟩, if_pos (by simp [h2]), if_pos ⟨h4, h3⟩]
        have e : 12 + 2 * c + n2 s.data.toList (10 + 2 * c) = 10 + 2 * c + 2 + n2 s.data.toList (10 + 2 * c) := by omega
        rw [e]
        dsimp only
        cases flg s.data.toList s.size (n2 s.data.toList (8 + 2 * c) + 1) (n2 s.data.toList (8 + 2 * c) + 1) (10 + 2 * c + 2 + n2 s.data.toList (10 + 2 * c)) 0 <;> rfl
      · rw [if_pos ⟨h1, rfl⟩, if_pos (by simp [h2]), if_neg (fun hh => h3 hh.2), flg_end _ _ _ _ _ _ (by omega) (by omega)]
  · rw [if_neg (fun hh => h1 hh.1), if_neg (fun (hh : 10 + 2 * c + 2 ≤ s.size ∧ _) => h1 (by omega))]
    split <;> rfl
theorem _root_.Go.Proofs.YthnpnkiomknkeaaDoor.IRow.lower {w : World} {B B' : Nat} {v : Value} {zs : List Int} (h : IRow w B v zs) (hB : B' ≤ B) : IRow w B' v zs := by
  obtain ⟨h1, h2 | ⟨g, cap, cur, hv, hg, hh, hr⟩⟩ := h
  · exact ⟨h1, Or.inl h2⟩
  · exact ⟨h1, Or.inr ⟨g, cap, cur, hv, Nat.le_trans hB hg, hh, hr⟩⟩
theorem ol_begin (b : Nat) (s : ByteArray) (a : Nat) (w : World) (h : RA w b s a) : ∃ V, V = (w.alloc (.cells zo 79)).alloc (.cells zo 79) ∧ Blk V w.heap.size zo 79 ∧ Blk V (w.heap.size + 1) zo 79 ∧ RA V b s a ∧ But b w V ∧ V.heap.size = w.heap.size + 2 := by
  refine ⟨_, rfl, ?_, ?_, ?_, ?_, by simp⟩
  · exact (Blk.new w _ _).below ((Below.refl _ _).alloc (Nat.le_refl _) _)
  · have := Blk.new (w.alloc (.cells zo 79)) zo 79
    rwa [show (w.alloc (.cells zo 79)).heap.size = w.heap.size + 1 by simp] at this
  · exact h.below (((Below.refl _ _).alloc (Nat.le_refl _) _).alloc (by simp) _)
  · exact But.of_below (((Below.refl _ _).alloc (Nat.le_refl _) _).alloc (by simp) _)
theorem _root_.Go.Proofs.YthnpnkiomknkeaaDoor.Blk.two {w : World} {b : Nat} {u v : Value} {t : TypeId} (h : Blk w b #[u, v] t) : (w.cell? ⟨b, 0, none⟩ = some u ∧ w.cell? ⟨b, 1, none⟩ = some v) ∧ w.frozen? ⟨b, 0, none⟩ = false ∧ w.frozen? ⟨b, 1, none⟩ = false :=
  ⟨⟨h.cell 0, h.cell 1⟩, h.frozen 0, h.frozen 1⟩
theorem ol_fin {R : Ending → World → Prop} {a : Act} {V : World} {B : Nat} {u0 u1 x y : Value} (hk : Blk V B #[u0, u1] 79) (h2 : a.tmps[2]?.getD undef = .pointer (some ⟨B, 0, none⟩)) (hd : a.defers = []) (h : R (.returned (.agg #[x, y])) ((V.setCell ⟨B, 0, none⟩ x).setCell ⟨B, 1, none⟩ y)) :
    bodyPost Tryd.prog Tryd.f54 R Exit.ret a ((V.setCell ⟨B, 0, none⟩ x).setCell ⟨B, 1, none⟩ y) := by
  have k : Blk ((V.setCell ⟨B, 0, none⟩ x).setCell ⟨B, 1, none⟩ y) B #[x, y] 79 := by
    have := (hk.set 0 x).set 1 y
    simpa using this
  obtain ⟨⟨f0, f1⟩, _⟩ := k.two
  refine bodyPost_ret (v := .agg #[x, y]) ?_ hd h
  simp [results, Tryd.results54, go_sem, f0, f1, h2]
theorem But.setNew {b : Nat} {w V : World} (h : But b w V) (k : Nat) (hk : w.heap.size ≤ k) (o : Nat) (v : Value) : But b w (V.setCell ⟨k, o, none⟩ v) :=
  ⟨h.os, h.tape, h.output, by have := h.size; simp [World.setCell]; exact this, fun i hi hn => by rw [Below.heap_setCell _ _ _ _ (fun e => by have e : i = k := e; omega), h.block i hi hn]⟩
theorem irow_set {w : World} {B y o : Nat} {v : Value} {zs : List Int} (h : IRow w B v zs) (hy : y < B) (x : Value) : IRow (w.setCell ⟨y, o, none⟩ x) B v zs :=
  h.kept fun k hk hl => Below.heap_setCell _ _ _ _ (fun e => by have e : k = y := e; have := (h.own k hk).1; omega)
theorem dropWhile_nil (l : List UInt8) : (l.dropWhile (· == 0) = []) ↔ (l.all fun c => c.toNat == 0) = true := by
  induction l with
  | nil => simp
  | cons c l ih =>
    rw [List.dropWhile_cons, List.all_cons, Bool.and_eq_true, ← ih]
    by_cases h : c = 0
    · subst h; simp
    · have h' : (c == 0) = false := by simpa using h
      have h2 : (c.toNat == 0) = false := by
        rw [beq_eq_false_iff_ne]
        intro e
        exact h (by apply UInt8.toNat_inj.1; simpa using e)
      simp [h', h2]
def trm (s : ByteArray) (a : Nat) : ByteArray := ⟨(Lib.trimLeftB (s.extract a s.size).data.toList 0).toArray⟩
theorem trm_iff (s : ByteArray) (a : Nat) (ha : a ≤ s.size) : (trm s a).toList = [] ↔ tailB s.data.toList a = true := by
  rw [Lib.toList_data]
  show ((Lib.trimLeftB (s.extract a s.size).data.toList 0).toArray.toList = []) ↔ _
  unfold Lib.trimLeftB tailB
  rw [List.toList_toArray, Lib.extract_data, List.take_of_length_le (by rw [List.length_drop, ← Lib.size_eq]; omega), dropWhile_nil, Bool.and_eq_true]
  constructor
  · intro h; exact ⟨by rw [← Lib.size_eq]; simpa using ha, h⟩
  · intro h; exact h.2
theorem trm_any (s : ByteArray) (a : Nat) (w : World) : Calls Tryd.prog 71 #[.string (s.extract a s.size), .string ⟨#[0]⟩] w fun e w' => e = .returned (.string (trm s a)) ∧ w' = w :=
  Any.strings_TrimLeft_one lays161 (s.extract a s.size) 0 (by decide) w
set_option maxRecDepth 8000 in
set_option maxHeartbeats 2000000 in
theorem ol_empty (b : Nat) (w : World) (h : RA w b ⟨#[]⟩ 0) : Calls Tryd.prog 54 #[.pointer (some ⟨b, 0, none⟩)] w (OlR b w (some (0, []))) := by
  obtain ⟨V, hV, k0, k1, k2, k3, k4⟩ := ol_begin b _ 0 w h
  obtain ⟨⟨c0, c1⟩, f0, f1⟩ := k0.two
  obtain ⟨⟨d0, d1⟩, g0, g1⟩ := k1.two
  obtain ⟨⟨r0, r1⟩, s0, s1⟩ := k2.two
  have HB := hide k3
  have HK := hide k0
  clear k0 k1 k2 k3 k4 h
  go_enter Tryd.func54, Tryd.ntmps54
  go_upto_region 2 with (fail)
  rw [← hV]
  clear hV
  go_wp2_with fail
  exact ol_fin HK.out rfl rfl ⟨_, rfl, IRow.nil _ _, (HB.out.setNew _ (Nat.le_refl _) _ _).setNew _ (Nat.le_refl _) _ _⟩
set_option maxRecDepth 8000 in
set_option maxHeartbeats 2000000 in
theorem ol_short (b : Nat) (s : ByteArray) (w : World) (h : RA w b s 0) (h0 : 0 < s.size) (h1 : s.size < 10) : Calls Tryd.prog 54 #[.pointer (some ⟨b, 0, none⟩)] w (OlR b w none) := by
  obtain ⟨V, hV, k0, k1, k2, k3, k4⟩ := ol_begin b _ 0 w h
  obtain ⟨⟨r0, r1⟩, s0, s1⟩ := k2.two
  have HB := hide k3
  have HR := hide k2
  have hne : (s.toList == []) = false := by
    rw [beq_eq_false_iff_ne, Lib.toList_data]
    intro e
    rw [Lib.size_eq, e] at h0
    simp at h0
  by_cases h2 : 2 ≤ s.size
  · have C := hide (fun w' (h' : RA w' b s 0) => rnum_ok b s 0 w' h' (by omega) (by omega))
    have C2 := hide (fun w' (h' : RA w' b s 2) => pass_bad b s 2 8 w' h' (by omega) (by omega) (by omega))
    clear k0 k1 k2 k3 k4 h
    go_enter Tryd.func54, Tryd.ntmps54
    go_upto_region 2 with (fail)
    rw [← hV]
    clear hV
    go_wp2_with fail
    refine (C.out _ HR.out).mono ?_
    rintro e w1 ⟨rfl, h1, h2⟩
    have H1 := hide (HB.out.trans h1)
    have H2 := hide h2
    clear h1 h2
    go_wp2_with fail
    refine (C2.out _ H2.out).mono ?_
    rintro e w2 ⟨rfl, h3⟩
    exact ⟨rfl, rfl, H1.out.trans h3⟩
  · have C := hide (fun w' (h' : RA w' b s 0) => rnum_bad b s 0 w' h' (by omega) (by omega) (by omega))
    clear k0 k1 k2 k3 k4 h
    go_enter Tryd.func54, Tryd.ntmps54
    go_upto_region 2 with (fail)
    rw [← hV]
    clear hV
    go_wp2_with fail
    refine (C.out _ HR.out).mono ?_
    rintro e w1 ⟨rfl, h1⟩
    exact ⟨rfl, rfl, HB.out.trans h1⟩
set_option maxRecDepth 8000 in
set_option maxHeartbeats 4000000 in
theorem ol_comp (b : Nat) (s : ByteArray) (w : World) (h : RA w b s 0) (hs : s.size ≤ 1000000) (h1 : 10 ≤ s.size) (hc : n2 s.data.toList 0 = 65535) : Calls Tryd.prog 54 #[.pointer (some ⟨b, 0, none⟩)] w (OlR b w ((comV s.data.toList).map fun ps => (0, ps))) := by
  obtain ⟨V, hV, k0, k1, k2, k3, k4⟩ := ol_begin b _ 0 w h
  obtain ⟨⟨r0, r1⟩, s0, s1⟩ := k2.two
  have HB := hide k3
  have HR := hide k2
  have HK := hide k0
  have HO := hide k1
  have HZ := hide k4
  have hbw := h.lt
  have hne : (s.toList == []) = false := by
    rw [beq_eq_false_iff_ne, Lib.toList_data]
    intro e
    rw [Lib.size_eq, e] at h1
    simp at h1
  have C := hide (fun w' (h' : RA w' b s 0) => rnum_ok b s 0 w' h' hs (by omega))
  have C2 := hide (fun w' (h' : RA w' b s 2) => pass_ok b s 2 8 w' h' hs (by omega))
  have CT := hide must_t
  have CF := hide must_f
  rw [hc] at C
  have CC := hide (fun w' (h' : RA w' b s 10) => comp_any b s w' h' hs h1)
  rw [comV_eq]
  have hcb : ∀ r, cmpA s.data.toList s.size 64 10 [] = some r → r.2 ≤ s.size := fun r hr => (cmp_bd _ _ _ _ _ _ hr (by simp)).2.2
  generalize cmpA s.data.toList s.size 64 10 [] = R at CC hcb ⊢
  clear k0 k1 k2 k3 k4 h
  go_enter Tryd.func54, Tryd.ntmps54
  go_upto_region 2 with (fail)
  rw [← hV]
  clear hV
  go_wp2_with fail
  refine (C.out _ HR.out).mono ?_
  rintro e w1 ⟨rfl, q1, q2⟩
  have H1 := hide (HB.out.trans q1)
  have H2 := hide q2
  have H3 := hide (q1.blk HK.out (by omega))
  have H4 := hide (q1.blk HO.out (by omega))
  have hz1 : w.heap.size + 2 ≤ w1.heap.size := by have := q1.size; have := HZ.out; omega
  clear q1 q2 HB HR HK HO r0 r1 s0 s1 HZ
  go_wp2_with fail
  refine (C2.out _ H2.out).mono ?_
  rintro e w2 ⟨rfl, q1, q2⟩
  have H5 := hide (H1.out.trans q1)
  have H6 : Hid (RA w2 b s 10) := hide q2
  have H7 := hide (q1.blk H3.out (by omega))
  have H8 := hide (q1.blk H4.out (by omega))
  have hz2 : w.heap.size + 2 ≤ w2.heap.size := by have := q1.size; omega
  clear q1 q2 H1 H2 H3 H4
  go_wp2_with fail
  have C3 := CC.out _ H6.out
  rcases R with _ | ⟨ps, Q⟩
  · refine C3.mono ?_
    rintro e w3 ⟨rfl, q1⟩
    exact ⟨rfl, rfl, H5.out.trans q1⟩
  · have hq : Q ≤ s.size := hcb _ rfl
    refine C3.mono ?_
    rintro e w3 ⟨v, rfl, q1, q2, q3⟩
    obtain ⟨ad, cap, hv, _⟩ := q1.lst
    subst hv
    have K5 := hide (H5.out.trans q2)
    have K6 := hide q3
    have K7 := hide (q2.blk H7.out (by omega))
    have K8 := hide (q2.blk H8.out (by omega))
    have K9 := hide (q1.lower (show w.heap.size + 2 ≤ w2.heap.size from hz2))
    clear q1 q2 q3 C3 H5 H6 H7 H8 hcb
    generalize (ints ps).length = LN at K9 ⊢
    obtain ⟨⟨d0, d1⟩, g0, g1⟩ := K8.out.two
    go_upto_region 12 with (fail)
    clear d0 d1 g0 g1
    have M5 := hide (K5.out.setNew (w.heap.size + 1) (by omega) 1 (.slice ad LN cap))
    have M6 : Hid (RA (w3.setCell ⟨w.heap.size + 1, 1, none⟩ (.slice ad LN cap)) b s Q) := hide (Blk.other K6.out (by omega) 1 _)
    have M7 := hide (Blk.other K7.out (b' := w.heap.size + 1) (by omega) 1 (.slice ad LN cap))
    have M8 : Hid (Blk (w3.setCell ⟨w.heap.size + 1, 1, none⟩ (.slice ad LN cap)) (w.heap.size + 1) #[.int .i64 0, .slice ad LN cap] 79) := hide (Blk.set K8.out 1 _)
    have M9 := hide (irow_set (o := 1) K9.out (show w.heap.size + 1 < w.heap.size + 2 by omega) (.slice ad LN cap))
    generalize w3.setCell ⟨w.heap.size + 1, 1, none⟩ (.slice ad LN cap) = w4 at M5 M6 M7 M8 M9 ⊢
    clear K5 K6 K7 K8 K9
    obtain ⟨⟨r0, r1⟩, s0, s1⟩ := M6.out.two
    obtain ⟨⟨c0, c1⟩, f0, f1⟩ := M7.out.two
    obtain ⟨⟨d0, d1⟩, g0, g1⟩ := M8.out.two
    have CTr := hide (fun w => trm_any s Q w)
    have ti := trm_iff s Q hq
    generalize trm s Q = tr at CTr ti
    have hq' : ((Q : Nat) : Int) ≤ (s.size : Int) := by omega
    have hq0 : (0 : Int) ≤ ((Q : Nat) : Int) := by omega
    have hs2 : (s.size : Int) ≤ 1000000 := by omega
    cases hT : tailB s.data.toList Q
    case true =>
      have tt : (tr.toList == []) = true := by rw [beq_iff_eq]; exact ti.2 hT
      clear ti
      go_wp2_with fail
      go_region_held3 (fun x : World => x.cell? ⟨b, 0, none⟩ = some (.string s) ∧ x.cell? ⟨b, 1, none⟩ = some (.int .i64 ((Q : Nat) : Int))) (go_keep) ((first | (go_at_call 71; refine (CTr.out _).mono ?_; rintro e wy ⟨rfl, hy⟩; subst wy) | (go_at_call 67; refine (CT.out _).mono ?_; rintro e wy ⟨rfl, hy⟩; subst wy)))
      go_wp2_with fail
      refine ol_fin (V := w4.drew) (B := w.heap.size) (show Blk w4.drew w.heap.size zo 79 from M7.out) rfl rfl ?_
      rw [show (comW s.data.toList (some (ps, Q))).map (fun ps => ((0 : Nat), ps)) = some (0, ps) by simp [comW, hT]]
      exact ⟨_, rfl, ((irow_set (irow_set (show IRow w4.drew (w.heap.size + 2) _ _ from M9.out) (by omega) _) (by omega) _).lower (by omega)), ((M5.out.drew).setNew _ (Nat.le_refl _) _ _).setNew _ (Nat.le_refl _) _ _⟩
    case false =>
      have tt : (tr.toList == []) = false := by
        rw [beq_eq_false_iff_ne]
        intro e
        rw [ti.1 e] at hT
        cases hT
      clear ti
      have hres : Hid ((comW s.data.toList (some (ps, Q))).map (fun ps => ((0 : Nat), ps)) = none) := hide (by simp [comW, hT])
      go_wp2_with fail
      refine wp_region_held_drew (S := (fun x : World => x.cell? ⟨b, 0, none⟩ = some (.string s) ∧ x.cell? ⟨b, 1, none⟩ = some (.int .i64 ((Q : Nat) : Int)))) (by kernel_rfl) (⟨r0, r1⟩) (fun hHeld => ?_)
      refine takeW (i := 0) (d := 39) (v := .pointer (some ⟨b, 0, none⟩)) rfl rfl (by kernel_rfl) (by kernel_rfl) (by kernel_rfl) (fun _ _ _ h => h) (by rfl) ?_ (by assumption) ?_
      · intro x hSx
        obtain ⟨q0, q1⟩ := hSx
        go_simp
      simp only [Act.put, List.setIfInBounds_toArray, List.set_cons_zero, List.set_cons_succ]
      refine takeW (i := 1) (d := 40) (v := .pointer (some ⟨b, 0, none⟩)) rfl rfl (by kernel_rfl) (by kernel_rfl) (by kernel_rfl) (fun _ _ _ h => h) (by rfl) ?_ (by assumption) ?_
      · intro x hSx
        obtain ⟨q0, q1⟩ := hSx
        go_simp
      simp only [Act.put, List.setIfInBounds_toArray, List.set_cons_zero, List.set_cons_succ]
      refine takeW (i := 2) (d := 41) (v := .pointer (some ⟨b, 0, none⟩)) rfl rfl (by kernel_rfl) (by kernel_rfl) (by kernel_rfl) (fun _ _ _ h => h) (by rfl) ?_ (by assumption) ?_
      · intro x hSx
        obtain ⟨q0, q1⟩ := hSx
        go_simp
      simp only [Act.put, List.setIfInBounds_toArray, List.set_cons_zero, List.set_cons_succ]
      refine takeW (i := 3) (d := 42) (v := .string s) rfl rfl (by kernel_rfl) (by kernel_rfl) (by kernel_rfl) (fun _ _ _ h => h) (by rfl) ?_ (by assumption) ?_
      · intro x hSx
        obtain ⟨q0, q1⟩ := hSx
        go_simp
      simp only [Act.put, List.setIfInBounds_toArray, List.set_cons_zero, List.set_cons_succ]
      refine takeW (i := 4) (d := 43) (v := .pointer (some ⟨b, 0, none⟩)) rfl rfl (by kernel_rfl) (by kernel_rfl) (by kernel_rfl) (fun _ _ _ h => h) (by rfl) ?_ (by assumption) ?_
      · intro x hSx
        obtain ⟨q0, q1⟩ := hSx
        go_simp
      simp only [Act.put, List.setIfInBounds_toArray, List.set_cons_zero, List.set_cons_succ]
      refine takeW (i := 5) (d := 44) (v := .pointer (some ⟨b, 0, none⟩)) rfl rfl (by kernel_rfl) (by kernel_rfl) (by kernel_rfl) (fun _ _ _ h => h) (by rfl) ?_ (by assumption) ?_
      · intro x hSx
        obtain ⟨q0, q1⟩ := hSx
        go_simp
      simp only [Act.put, List.setIfInBounds_toArray, List.set_cons_zero, List.set_cons_succ]
      refine takeW (i := 6) (d := 45) (v := .pointer (some ⟨b, 1, none⟩)) rfl rfl (by kernel_rfl) (by kernel_rfl) (by kernel_rfl) (fun _ _ _ h => h) (by rfl) ?_ (by assumption) ?_
      · intro x hSx
        obtain ⟨q0, q1⟩ := hSx
        go_simp
      simp only [Act.put, List.setIfInBounds_toArray, List.set_cons_zero, List.set_cons_succ]
      refine takeW (i := 7) (d := 46) (v := .int .i64 ((Q : Nat) : Int)) rfl rfl (by kernel_rfl) (by kernel_rfl) (by kernel_rfl) (fun _ _ _ h => h) (by rfl) ?_ (by assumption) ?_
      · intro x hSx
        obtain ⟨q0, q1⟩ := hSx
        go_simp
      simp only [Act.put, List.setIfInBounds_toArray, List.set_cons_zero, List.set_cons_succ]
      refine takeW (i := 8) (d := 47) (v := .string (s.extract Q s.size)) rfl rfl (by kernel_rfl) (by kernel_rfl) (by kernel_rfl) (fun _ _ _ h => h) (by rfl) ?_ (by assumption) ?_
      · intro x hSx
        obtain ⟨q0, q1⟩ := hSx
        go_simp
      simp only [Act.put, List.setIfInBounds_toArray, List.set_cons_zero, List.set_cons_succ]
      refine wpAnyH_ready (rs := [9]) (by kernel_rfl) (by simp) ?_
      refine AllReadyH.cons rfl (fun K hK => ?_) AllReadyH.nil
      rw [if_pos (by rfl)]
      go_simp
      go_at_call 71
      refine (CTr.out _).mono ?_
      rintro e wy ⟨rfl, hy⟩
      subst wy
      refine hK _ _ (show (fun x : World => x.cell? ⟨b, 0, none⟩ = some (.string s) ∧ x.cell? ⟨b, 1, none⟩ = some (.int .i64 ((Q : Nat) : Int))) _ from ⟨r0, r1⟩) (fun hHeld => ?_)
      clear hK K
      refine takeW (i := 10) (d := 49) (v := .bool false) rfl rfl (by kernel_rfl) (by kernel_rfl) (by kernel_rfl) (fun _ _ _ h => h) (by rfl) ?_ (by assumption) ?_
      · intro x hSx
        obtain ⟨q0, q1⟩ := hSx
        go_simp
      simp only [Act.put, List.setIfInBounds_toArray, List.set_cons_zero, List.set_cons_succ]
      refine wpAnyH_ready (rs := [11]) (by kernel_rfl) (by simp) ?_
      refine AllReadyH.cons rfl (fun K hK => ?_) AllReadyH.nil
      rw [if_pos (by rfl)]
      go_simp
      go_at_call 67
      refine (CF.out _).mono ?_
      rintro e wy ⟨rfl, hy⟩
      subst wy
      refine ⟨rfl, ?_⟩
      rw [hres.out]
      exact ⟨rfl, M5.out.drew⟩
set_option maxRecDepth 8000 in
set_option maxHeartbeats 4000000 in
theorem ol_no (b : Nat) (s : ByteArray) (w : World) (h : RA w b s 0) (hs : s.size ≤ 1000000) (h1 : 10 ≤ s.size) (hc : n2 s.data.toList 0 ≠ 65535) (hc2 : ¬ (1 ≤ n2 s.data.toList 0 ∧ n2 s.data.toList 0 ≤ 32767)) : Calls Tryd.prog 54 #[.pointer (some ⟨b, 0, none⟩)] w (OlR b w none) := by
  obtain ⟨V, hV, k0, k1, k2, k3, k4⟩ := ol_begin b _ 0 w h
  obtain ⟨⟨r0, r1⟩, s0, s1⟩ := k2.two
  have HB := hide k3
  have HR := hide k2
  have HK := hide k0
  have HO := hide k1
  have HZ := hide k4
  have hbw := h.lt
  have hne : (s.toList == []) = false := by
    rw [beq_eq_false_iff_ne, Lib.toList_data]
    intro e
    rw [Lib.size_eq, e] at h1
    simp at h1
  have C := hide (fun w' (h' : RA w' b s 0) => rnum_ok b s 0 w' h' hs (by omega))
  have C2 := hide (fun w' (h' : RA w' b s 2) => pass_ok b s 2 8 w' h' hs (by omega))
  have CT := hide must_t
  have CF := hide must_f
  have hn := n2_lt s.data.toList 0
  generalize n2 s.data.toList 0 = c at C hc hc2 hn
  have t1 : ((c : Int) == 65535) = false := by rw [beq_eq_false_iff_ne]; omega
  have c0' : (0 : Int) ≤ (c : Int) := by omega
  have c1' : (c : Int) ≤ 65535 := by omega
  by_cases h0 : 1 ≤ c
  · have t2 : (1 : Int) ≤ (c : Int) := by omega
    have t3 : ¬ (c : Int) ≤ 32767 := by omega
    have t4 : decide ((c : Int) ≤ 32767) = false := by simpa using t3
    have t5 : decide ((1 : Int) ≤ (c : Int)) = true := by simpa using t2
    clear hc hc2 hn h0
    clear k0 k1 k2 k3 k4 h
    go_enter Tryd.func54, Tryd.ntmps54
    go_upto_region 2 with (fail)
    rw [← hV]
    clear hV
    go_wp2_with fail
    refine (C.out _ HR.out).mono ?_
    rintro e w1 ⟨rfl, q1, q2⟩
    have H1 := hide (HB.out.trans q1)
    have H2 := hide q2
    have H3 := hide (q1.blk HK.out (by omega))
    have H4 := hide (q1.blk HO.out (by omega))
    have hz1 : w.heap.size + 2 ≤ w1.heap.size := by have := q1.size; have := HZ.out; omega
    clear q1 q2 HB HR HK HO r0 r1 s0 s1 HZ
    go_wp2_with fail
    refine (C2.out _ H2.out).mono ?_
    rintro e w2 ⟨rfl, q1, q2⟩
    have H5 := hide (H1.out.trans q1)
    have H6 : Hid (RA w2 b s 10) := hide q2
    have H7 := hide (q1.blk H3.out (by omega))
    have H8 := hide (q1.blk H4.out (by omega))
    have hz2 : w.heap.size + 2 ≤ w2.heap.size := by have := q1.size; omega
    clear q1 q2 H1 H2 H3 H4
    go_wp2_with fail
    refine (CF.out _).mono ?_
    rintro e wy ⟨rfl, hy⟩
    subst wy
    exact ⟨rfl, rfl, H5.out⟩
  · have t2 : ¬ (1 : Int) ≤ (c : Int) := by omega
    have t4 : decide ((1 : Int) ≤ (c : Int)) = false := by simpa using t2
    clear hc hc2 hn h0
    clear k0 k1 k2 k3 k4 h
    go_enter Tryd.func54, Tryd.ntmps54
    go_upto_region 2 with (fail)
    rw [← hV]
    clear hV
    go_wp2_with fail
    refine (C.out _ HR.out).mono ?_
    rintro e w1 ⟨rfl, q1, q2⟩
    have H1 := hide (HB.out.trans q1)
    have H2 := hide q2
    have H3 := hide (q1.blk HK.out (by omega))
    have H4 := hide (q1.blk HO.out (by omega))
    have hz1 : w.heap.size + 2 ≤ w1.heap.size := by have := q1.size; have := HZ.out; omega
    clear q1 q2 HB HR HK HO r0 r1 s0 s1 HZ
    go_wp2_with fail
    refine (C2.out _ H2.out).mono ?_
    rintro e w2 ⟨rfl, q1, q2⟩
    have H5 := hide (H1.out.trans q1)
    have H6 : Hid (RA w2 b s 10) := hide q2
    have H7 := hide (q1.blk H3.out (by omega))
    have H8 := hide (q1.blk H4.out (by omega))
    have hz2 : w.heap.size + 2 ≤ w2.heap.size := by have := q1.size; omega
    clear q1 q2 H1 H2 H3 H4
    go_wp2_with fail
    refine (CF.out _).mono ?_
    rintro e wy ⟨rfl, hy⟩
    subst wy
    exact ⟨rfl, rfl, H5.out⟩
set_option maxRecDepth 8000 in
set_option maxHeartbeats 4000000 in
theorem ol_simp (b : Nat) (s : ByteArray) (w : World) (h : RA w b s 0) (hs : s.size ≤ 1000000) (h1 : 10 ≤ s.size) (hc0 : 1 ≤ n2 s.data.toList 0) (hc2 : n2 s.data.toList 0 ≤ 32767) : Calls Tryd.prog 54 #[.pointer (some ⟨b, 0, none⟩)] w (OlR b w ((simV s.data.toList (n2 s.data.toList 0)).map fun p => (p, []))) := by
  obtain ⟨V, hV, k0, k1, k2, k3, k4⟩ := ol_begin b _ 0 w h
  obtain ⟨⟨r0, r1⟩, s0, s1⟩ := k2.two
  have HB := hide k3
  have HR := hide k2
  have HK := hide k0
  have HO := hide k1
  have HZ := hide k4
  have hbw := h.lt
  have hne : (s.toList == []) = false := by
    rw [beq_eq_false_iff_ne, Lib.toList_data]
    intro e
    rw [Lib.size_eq, e] at h1
    simp at h1
  have C := hide (fun w' (h' : RA w' b s 0) => rnum_ok b s 0 w' h' hs (by omega))
  have C2 := hide (fun w' (h' : RA w' b s 2) => pass_ok b s 2 8 w' h' hs (by omega))
  have CT := hide must_t
  have CF := hide must_f
  generalize n2 s.data.toList 0 = c at C hc0 hc2 ⊢
  have t1 : ((c : Int) == 65535) = false := by rw [beq_eq_false_iff_ne]; omega
  have t2 : (1 : Int) ≤ (c : Int) := by omega
  have t3 : (c : Int) ≤ 32767 := by omega
  have t4 : decide ((c : Int) ≤ 32767) = true := by simpa using t3
  have t5 : decide ((1 : Int) ≤ (c : Int)) = true := by simpa using t2
  have CPt := hide (fun w' (h' : RA w' b s 10) => pts_any b s c w' h' hs hc0 hc2 h1)
  have CI := hide (fun w' (h' : RA w' b s (10 + 2 * c)) (h2 : 10 + 2 * c ≤ s.size) => ins_any b s _ w' h' hs h2)
  have hP := n2_lt s.data.toList (8 + 2 * c)
  have CFl := hide (fun a w' (h' : RA w' b s a) (h2 : a ≤ s.size) => flags_any b s (n2 s.data.toList (8 + 2 * c) + 1) a w' h' hs h2 (by omega))
  have CP := hide (fun (z : Int) (a c : Nat) w' (hz : z = (c : Int)) (h' : RA w' b s a) (h2 : a + c ≤ s.size) => pass_okz b s a c z w' hz h' hs h2)
  have CQ := hide (fun (z : Int) (a c : Nat) w' (hz : z = (c : Int)) (h' : RA w' b s a) (h1 : a ≤ s.size) (h2 : ¬ a + c ≤ s.size) => pass_badz b s a c z w' hz h' hs h1 h2)
  rw [simV_eq]
  have HE := hide (show n2 s.data.toList (8 + 2 * c) + 1 = n2 s.data.toList (8 + 2 * c) + 1 from rfl)
  clear hc0 hc2
  clear k0 k1 k2 k3 k4 h
  go_enter Tryd.func54, Tryd.ntmps54
  go_upto_region 2 with (fail)
  rw [← hV]
  clear hV
  go_wp2_with fail
  refine (C.out _ HR.out).mono ?_
  rintro e w1 ⟨rfl, q1, q2⟩
  have H1 := hide (HB.out.trans q1)
  have H2 := hide q2
  have H3 := hide (q1.blk HK.out (by omega))
  have H4 := hide (q1.blk HO.out (by omega))
  have hz1 : w.heap.size + 2 ≤ w1.heap.size := by have := q1.size; have := HZ.out; omega
  clear q1 q2 HB HR HK HO r0 r1 s0 s1 HZ
  go_wp2_with fail
  refine (C2.out _ H2.out).mono ?_
  rintro e w2 ⟨rfl, q1, q2⟩
  have H5 := hide (H1.out.trans q1)
  have H6 : Hid (RA w2 b s 10) := hide q2
  have H7 := hide (q1.blk H3.out (by omega))
  have H8 := hide (q1.blk H4.out (by omega))
  have hz2 : w.heap.size + 2 ≤ w2.heap.size := by have := q1.size; omega
  clear q1 q2 H1 H2 H3 H4
  go_wp2_with fail
  refine (CT.out _).mono ?_
  rintro e wy ⟨rfl, hy⟩
  subst wy
  go_wp2_with fail
  have C3 := CPt.out _ H6.out
  unfold PtR at C3
  cases hpt : ptsB s.data.toList s.size c
  case false =>
    have hres : Hid ((simW s.data.toList s.size c).map (fun p => (p, ([] : List Nat))) = none) := hide (by rw [sim_pts hpt]; rfl)
    rw [hpt] at C3
    refine C3.mono ?_
    rintro e w3 ⟨rfl, q1⟩
    refine ⟨rfl, ?_⟩
    rw [hres.out]
    exact ⟨rfl, H5.out.trans q1⟩
  rw [hpt] at C3
  have hle := (pts_le hpt)
  have HPT := hide hpt
  clear hpt
  generalize hPP : n2 s.data.toList (8 + 2 * c) + 1 = P at C3 CFl
  have HPP := hide hPP
  have hP1 : (P : Int) ≤ 65536 := by omega
  clear hPP hP
  refine C3.mono ?_
  rintro e w3 ⟨rfl, q1, q2⟩
  have K5 := hide (H5.out.trans q1)
  have K6 := hide q2
  have K7 := hide (q1.blk H7.out (by omega))
  have K8 := hide (q1.blk H8.out (by omega))
  have hz3 : w.heap.size + 2 ≤ w3.heap.size := by have := q1.size; omega
  clear q1 q2 C3 H5 H6 H7 H8 C C2
  obtain ⟨⟨d0, d1⟩, g0, g1⟩ := K8.out.two
  go_upto_region 10 with (fail)
  clear d0 d1 g0 g1
  have L5 := hide (K5.out.setNew (w.heap.size + 1) (by omega) 0 (.int .i64 (P : Int)))
  have L6 : Hid (RA (w3.setCell ⟨w.heap.size + 1, 0, none⟩ (.int .i64 (P : Int))) b s (10 + 2 * c)) := hide (Blk.other K6.out (by omega) 0 _)
  have L7 := hide (Blk.other K7.out (b' := w.heap.size + 1) (by omega) 0 (.int .i64 (P : Int)))
  have L8 : Hid (Blk (w3.setCell ⟨w.heap.size + 1, 0, none⟩ (.int .i64 (P : Int))) (w.heap.size + 1) #[.int .i64 (P : Int), .slice none 0 0] 79) := hide (Blk.set K8.out 0 _)
  have hz4 : w.heap.size + 2 ≤ (w3.setCell ⟨w.heap.size + 1, 0, none⟩ (.int .i64 (P : Int))).heap.size := by simp [World.setCell]; exact hz3
  generalize w3.setCell ⟨w.heap.size + 1, 0, none⟩ (.int .i64 (P : Int)) = w5 at L5 L6 L7 L8 hz4 ⊢
  clear K5 K6 K7 K8
  go_wp2_with fail
  have C4 := CI.out _ L6.out hle
  cases hi : insV s.data.toList s.size (10 + 2 * c) with
  | none =>
    have hres : Hid ((simW s.data.toList s.size c).map (fun p => (p, ([] : List Nat))) = none) := hide (by rw [sim_ins HPT.out hi]; rfl)
    rw [hi] at C4
    refine C4.mono ?_
    rintro e w6 ⟨rfl, q1⟩
    refine ⟨rfl, ?_⟩
    rw [hres.out]
    exact ⟨rfl, L5.out.trans q1⟩
  | some A =>
  rw [hi] at C4
  have HI := hide hi
  have hA : A ≤ s.size := ins_le hi
  clear hi
  refine C4.mono ?_
  rintro e w6 ⟨rfl, q1, q2⟩
  have K5 := hide (L5.out.trans q1)
  have K6 := hide q2
  have K7 := hide (q1.blk L7.out (by omega))
  have K8 := hide (q1.blk L8.out (by omega))
  have hz6 : w.heap.size + 2 ≤ w6.heap.size := by have := q1.size; omega
  clear q1 q2 C4 L5 L6 L7 L8
  obtain ⟨⟨d0, d1⟩, g0, g1⟩ := K8.out.two
  go_wp2_with fail
  clear d0 d1 g0 g1
  have C5 := CFl.out _ _ K6.out hA
  cases hf : flg s.data.toList s.size P P A 0 with
  | none =>
    have hres : Hid ((simW s.data.toList s.size c).map (fun p => (p, ([] : List Nat))) = none) := hide (by rw [sim_flg HPT.out HI.out (by rw [HPP.out]; exact hf)]; rfl)
    rw [hf] at C5
    refine C5.mono ?_
    rintro e w7 ⟨rfl, q1⟩
    refine ⟨rfl, ?_⟩
    rw [hres.out]
    exact ⟨rfl, K5.out.trans q1⟩
  | some x =>
  obtain ⟨E, Z⟩ := x
  rw [hf] at C5
  have HF : Hid (flg s.data.toList s.size (n2 s.data.toList (8 + 2 * c) + 1) (n2 s.data.toList (8 + 2 * c) + 1) A 0 = some (E, Z)) := hide (by rw [HPP.out]; exact hf)
  have hE := (flg_bd _ _ _ _ _ _ _ hf).2.1 hA
  simp only at hE
  clear hf
  refine C5.mono ?_
  rintro e w7 ⟨rfl, q1, q2⟩
  have L5 := hide (K5.out.trans q1)
  have L6 := hide q2
  have L7 := hide (q1.blk K7.out (by omega))
  have L8 := hide (q1.blk K8.out (by omega))
  have hz7 : w.heap.size + 2 ≤ w7.heap.size := by have := q1.size; omega
  clear q1 q2 C5 K5 K6 K7 K8
  go_wp2_with fail
  by_cases hq : E + Z ≤ s.size
  case neg =>
    have hres : Hid ((simW s.data.toList s.size c).map (fun p => (p, ([] : List Nat))) = none) := hide (by rw [sim_over HPT.out HI.out HF.out hq]; rfl)
    refine (CQ.out _ E Z _ rfl L6.out hE hq).mono ?_
    rintro e w8 ⟨rfl, q1⟩
    refine ⟨rfl, ?_⟩
    rw [hres.out]
    exact ⟨rfl, L5.out.trans q1⟩
  have hsim := sim_last HPT.out HI.out HF.out hq
  rw [HPP.out] at hsim
  refine (CP.out _ E Z _ rfl L6.out hq).mono ?_
  rintro e w4 ⟨rfl, q1, q2⟩
  have M5 := hide (L5.out.trans q1)
  have M6 := hide q2
  have M7 := hide (q1.blk L7.out (by omega))
  have M8 := hide (q1.blk L8.out (by omega))
  have M9 := hide (IRow.nil w4 (w.heap.size + 2))
  generalize E + Z = Q at M6 hq hsim ⊢
  have HSIM := hide hsim
  clear q1 q2 L5 L6 L7 L8 hsim HF HI HPP HPT CFl
  obtain ⟨⟨r0, r1⟩, s0, s1⟩ := M6.out.two
  obtain ⟨⟨c0, c1⟩, f0, f1⟩ := M7.out.two
  obtain ⟨⟨d0, d1⟩, g0, g1⟩ := M8.out.two
  have CTr := hide (fun w => trm_any s Q w)
  have ti := trm_iff s Q hq
  generalize trm s Q = tr at CTr ti
  have hq' : ((Q : Nat) : Int) ≤ (s.size : Int) := by omega
  have hq0 : (0 : Int) ≤ ((Q : Nat) : Int) := by omega
  have hs2 : (s.size : Int) ≤ 1000000 := by omega
  cases hT : tailB s.data.toList Q
  case true =>
    have tt : (tr.toList == []) = true := by rw [beq_iff_eq]; exact ti.2 hT
    clear ti
    go_wp2_with fail
    go_region_held3 (fun x : World => x.cell? ⟨b, 0, none⟩ = some (.string s) ∧ x.cell? ⟨b, 1, none⟩ = some (.int .i64 ((Q : Nat) : Int))) (go_keep) ((first | (go_at_call 71; refine (CTr.out _).mono ?_; rintro e wy ⟨rfl, hy⟩; subst wy) | (go_at_call 67; refine (CT.out _).mono ?_; rintro e wy ⟨rfl, hy⟩; subst wy)))
    go_wp2_with fail
    refine ol_fin (V := w4.drew) (B := w.heap.size) (show Blk w4.drew w.heap.size zo 79 from M7.out) rfl rfl ?_
    rw [show (simW s.data.toList s.size c).map (fun p => (p, ([] : List Nat))) = some (P, []) by rw [HSIM.out]; simp [hT]]
    exact ⟨_, rfl, ((irow_set (irow_set (show IRow w4.drew (w.heap.size + 2) _ _ from M9.out) (by omega) _) (by omega) _).lower (by omega)), ((M5.out.drew).setNew _ (Nat.le_refl _) _ _).setNew _ (Nat.le_refl _) _ _⟩
  case false =>
    have tt : (tr.toList == []) = false := by
      rw [beq_eq_false_iff_ne]
      intro e
      rw [ti.1 e] at hT
      cases hT
    clear ti
    have hres : Hid ((simW s.data.toList s.size c).map (fun p => (p, ([] : List Nat))) = none) := hide (by rw [HSIM.out]; simp [hT])
    go_wp2_with fail
    refine wp_region_held_drew (S := (fun x : World => x.cell? ⟨b, 0, none⟩ = some (.string s) ∧ x.cell? ⟨b, 1, none⟩ = some (.int .i64 ((Q : Nat) : Int)))) (by kernel_rfl) (⟨r0, r1⟩) (fun hHeld => ?_)
    refine takeW (i := 0) (d := 39) (v := .pointer (some ⟨b, 0, none⟩)) rfl rfl (by kernel_rfl) (by kernel_rfl) (by kernel_rfl) (fun _ _ _ h => h) (by rfl) ?_ (by assumption) ?_
    · intro x hSx
      obtain ⟨q0, q1⟩ := hSx
      go_simp
    simp only [Act.put, List.setIfInBounds_toArray, List.set_cons_zero, List.set_cons_succ]
    refine takeW (i := 1) (d := 40) (v := .pointer (some ⟨b, 0, none⟩)) rfl rfl (by kernel_rfl) (by kernel_rfl) (by kernel_rfl) (fun _ _ _ h => h) (by rfl) ?_ (by assumption) ?_
    · intro x hSx
      obtain ⟨q0, q1⟩ := hSx
      go_simp
    simp only [Act.put, List.setIfInBounds_toArray, List.set_cons_zero, List.set_cons_succ]
    refine takeW (i := 2) (d := 41) (v := .pointer (some ⟨b, 0, none⟩)) rfl rfl (by kernel_rfl) (by kernel_rfl) (by kernel_rfl) (fun _ _ _ h => h) (by rfl) ?_ (by assumption) ?_
    · intro x hSx
      obtain ⟨q0, q1⟩ := hSx
      go_simp
    simp only [Act.put, List.setIfInBounds_toArray, List.set_cons_zero, List.set_cons_succ]
    refine takeW (i := 3) (d := 42) (v := .string s) rfl rfl (by kernel_rfl) (by kernel_rfl) (by kernel_rfl) (fun _ _ _ h => h) (by rfl) ?_ (by assumption) ?_
    · intro x hSx
      obtain ⟨q0, q1⟩ := hSx
      go_simp
    simp only [Act.put, List.setIfInBounds_toArray, List.set_cons_zero, List.set_cons_succ]
    refine takeW (i := 4) (d := 43) (v := .pointer (some ⟨b, 0, none⟩)) rfl rfl (by kernel_rfl) (by kernel_rfl) (by kernel_rfl) (fun _ _ _ h => h) (by rfl) ?_ (by assumption) ?_
    · intro x hSx
      obtain ⟨q0, q1⟩ := hSx
      go_simp
    simp only [Act.put, List.setIfInBounds_toArray, List.set_cons_zero, List.set_cons_succ]
    refine takeW (i := 5) (d := 44) (v := .pointer (some ⟨b, 0, none⟩)) rfl rfl (by kernel_rfl) (by kernel_rfl) (by kernel_rfl) (fun _ _ _ h => h) (by rfl) ?_ (by assumption) ?_
    · intro x hSx
      obtain ⟨q0, q1⟩ := hSx
      go_simp
    simp only [Act.put, List.setIfInBounds_toArray, List.set_cons_zero, List.set_cons_succ]
    refine takeW (i := 6) (d := 45) (v := .pointer (some ⟨b, 1, none⟩)) rfl rfl (by kernel_rfl) (by kernel_rfl) (by kernel_rfl) (fun _ _ _ h => h) (by rfl) ?_ (by assumption) ?_
    · intro x hSx
      obtain ⟨q0, q1⟩ := hSx
      go_simp
    simp only [Act.put, List.setIfInBounds_toArray, List.set_cons_zero, List.set_cons_succ]
    refine takeW (i := 7) (d := 46) (v := .int .i64 ((Q : Nat) : Int)) rfl rfl (by kernel_rfl) (by kernel_rfl) (by kernel_rfl) (fun _ _ _ h => h) (by rfl) ?_ (by assumption) ?_
    · intro x hSx
      obtain ⟨q0, q1⟩ := hSx
      go_simp
    simp only [Act.put, List.setIfInBounds_toArray, List.set_cons_zero, List.set_cons_succ]
    refine takeW (i := 8) (d := 47) (v := .string (s.extract Q s.size)) rfl rfl (by kernel_rfl) (by kernel_rfl) (by kernel_rfl) (fun _ _ _ h => h) (by rfl) ?_ (by assumption) ?_
    · intro x hSx
      obtain ⟨q0, q1⟩ := hSx
      go_simp
    simp only [Act.put, List.setIfInBounds_toArray, List.set_cons_zero, List.set_cons_succ]
    refine wpAnyH_ready (rs := [9]) (by kernel_rfl) (by simp) ?_
    refine AllReadyH.cons rfl (fun K hK => ?_) AllReadyH.nil
    rw [if_pos (by rfl)]
    go_simp
    go_at_call 71
    refine (CTr.out _).mono ?_
    rintro e wy ⟨rfl, hy⟩
    subst wy
    refine hK _ _ (show (fun x : World => x.cell? ⟨b, 0, none⟩ = some (.string s) ∧ x.cell? ⟨b, 1, none⟩ = some (.int .i64 ((Q : Nat) : Int))) _ from ⟨r0, r1⟩) (fun hHeld => ?_)
    clear hK K
    refine takeW (i := 10) (d := 49) (v := .bool false) rfl rfl (by kernel_rfl) (by kernel_rfl) (by kernel_rfl) (fun _ _ _ h => h) (by rfl) ?_ (by assumption) ?_
    · intro x hSx
      obtain ⟨q0, q1⟩ := hSx
      go_simp
    simp only [Act.put, List.setIfInBounds_toArray, List.set_cons_zero, List.set_cons_succ]
    refine wpAnyH_ready (rs := [11]) (by kernel_rfl) (by simp) ?_
    refine AllReadyH.cons rfl (fun K hK => ?_) AllReadyH.nil
    rw [if_pos (by rfl)]
    go_simp
    go_at_call 67
    refine (CF.out _).mono ?_
    rintro e wy ⟨rfl, hy⟩
    subst wy
    refine ⟨rfl, ?_⟩
    rw [hres.out]
    exact ⟨rfl, M5.out.drew⟩
end Go.Proofs.YthnpnkiomknkeaaDoor.G10
namespace Go.Proofs.YthnpnkiomknkeaaDoor.G10
open Go.RowKit Go.Deep
set_option linter.unusedVariables false
set_option linter.unusedSimpArgs false
theorem ol_any (b : Nat) (s : ByteArray) (w : World) (h : RA w b s 0) (hs : s.size ≤ 1000000) : Calls Tryd.prog 54 #[.pointer (some ⟨b, 0, none⟩)] w (OlR b w (shV s.data.toList)) := by
  have hl : s.data.toList.length = s.size := (Lib.size_eq s).symm
  unfold shV
  rw [hl]
  by_cases h0 : s.size = 0
  · rw [if_pos h0]
    obtain rfl : s = ⟨#[]⟩ := by
      cases s with | mk d =>
        have : d.size = 0 := h0
        rw [Array.eq_empty_of_size_eq_zero this]
    exact ol_empty b w h
  rw [if_neg h0]
  by_cases h1 : s.size < 10
  · rw [if_pos h1]; exact ol_short b s w h (by omega) h1
  rw [if_neg h1]
  by_cases h2 : n2 s.data.toList 0 = 65535
  · rw [if_pos h2]; exact ol_comp b s w h hs (by omega) h2
  rw [if_neg h2]
  by_cases h3 : 1 ≤ n2 s.data.toList 0 ∧ n2 s.data.toList 0 ≤ 32767
  · rw [if_pos h3]; exact ol_simp b s w h hs (by omega) h3.1 h3.2
  · rw [if_neg h3]; exact ol_no b s w h hs (by omega) h2 h3
def LkR (w : World) (R : Option (Nat × List Nat)) (e : Ending) (w' : World) : Prop := match R with
  | some (p, ps) => ∃ v, e = .returned (.tuple #[.agg #[.int .i64 (p : Int), v], .int .i64 0]) ∧ IRow w' w.heap.size v (ints ps) ∧ Below w.heap.size w w'
  | none => e = .returned (.tuple #[.agg #[.int .i64 0, .slice none 0 0], .int .i64 100]) ∧ Below w.heap.size w w'
theorem catch_idle (p q : Addr) (w : World) :
    CallsD Tryd.prog 53 #[.pointer (some p), .pointer (some q)] .returning w fun e u' w' => e = .returned (.tuple #[]) ∧ u' = .returning ∧ w' = w := by
  refine callsD_of_wpS Tryd.func53 rfl fun c₀ cs hu => ?_
  apply wpS_seq
  apply wpS_region
  simp [wpOpsS, go_sem, recoverD, hu, Tryd.ntmps53, Exit.thenS]
  refine wpS_cond (t := false) (by simp [Act.eval, Array.replicate]) ?_
  simp only [Bool.false_eq_true, if_false]
  refine wpS_of_wp (wp_skip ?_)
  cases c₀
  simp_all [bodyPostS, results, Tryd.results53]
theorem catch_thrown (B : Nat) (w : World) (x0 x1 y0 : Value) (u : TypeId) (pv : Value) (hk : Blk w B #[x0, x1] 79) (he : Blk w (B + 1) #[y0] 33) :
    CallsD Tryd.prog 53 #[.pointer (some ⟨B, 0, none⟩), .pointer (some ⟨B + 1, 0, none⟩)] (.panicking [{ v := .iface u pv, recovered := false }]) w fun e u' w' =>
      e = .returned (.tuple #[]) ∧ u' = .panicking [{ v := .iface u pv, recovered := true }] ∧ w' = (((w.setCell ⟨B, 0, none⟩ (.int .i64 0)).setCell ⟨B, 1, none⟩ (.slice none 0 0)).setCell ⟨B + 1, 0, none⟩ (.int .i64 100)) := by
  obtain ⟨⟨r0, r1⟩, z0, z1⟩ := hk.two
  have c1 := he.cell 0
  have f1 := he.frozen 0
  simp at c1
  refine callsD_of_wpS Tryd.func53 rfl fun c₀ cs hu => ?_
  apply wpS_seq
  apply wpS_region
  simp [wpOpsS, go_sem, recoverD, hu, Tryd.ntmps53, Exit.thenS]
  refine wpS_cond (t := true) (by simp [Act.eval, Array.replicate]) ?_
  simp only [if_true]
  apply wpS_region
  simp [wpOpsS, go_sem, r0, r1, z0, z1, c1, f1, bodyPostS, results, Tryd.results53]
theorem lk_begin (s : ByteArray) (w : World) : ∃ V, V = ((w.alloc (.cells zo 79)).alloc (.cells #[.int .i64 0] 33)).alloc (.cells #[.string s, .int .i64 0] 101) ∧ Blk V w.heap.size zo 79 ∧ Blk V (w.heap.size + 1) #[.int .i64 0] 33 ∧ RA V (w.heap.size + 1 + 1) s 0 ∧ Below w.heap.size w V ∧ V.heap.size = w.heap.size + 3 := by
  have hal : ∀ (u : World) (o : Obj), Below u.heap.size u (u.alloc o) := fun u o => (Below.refl _ _).alloc (Nat.le_refl _) _
  refine ⟨_, rfl, ((Blk.new w _ _).below (hal _ _)).below (hal _ _), ?_, ?_, (((Below.refl _ _).alloc (Nat.le_refl _) _).alloc (by simp) _).alloc (by simp; omega) _, by simp⟩
  · have := Blk.new (w.alloc (.cells zo 79)) #[.int .i64 0] 33
    rw [show (w.alloc (.cells zo 79)).heap.size = w.heap.size + 1 by simp] at this
    exact this.below (hal _ _)
  · have := Blk.new ((w.alloc (.cells zo 79)).alloc (.cells #[.int .i64 0] 33)) #[.string s, .int .i64 0] 101
    rwa [show ((w.alloc (.cells zo 79)).alloc (.cells #[.int .i64 0] 33)).heap.size = w.heap.size + 1 + 1 by simp] at this
set_option maxRecDepth 8000 in
set_option maxHeartbeats 4000000 in
theorem look_any (s : ByteArray) (w : World) (hs : s.size ≤ 1000000) : Calls Tryd.prog 37 #[.string s] w (LkR w (shV s.data.toList)) := by
  have hmf : ∀ (fn : Fn) (first cap : Array Value) (w : World), (Instr.makeFunc fn first cap).run Tryd.prog w = .ok (.func fn first cap) w := fun _ _ _ _ => rfl
  have CO := hide (fun b w (h : RA w b s 0) => ol_any b s w h hs)
  obtain ⟨V, hV, k0, k1, k2, k3, k4⟩ := lk_begin s w
  have HK0 := hide k0
  have HK1 := hide k1
  have HK2 := hide k2
  have HB := hide k3
  clear k0 k1 k2 k3
  generalize shV s.data.toList = R at CO ⊢
  go_enter_defers Tryd.func37, Tryd.ntmps37
  go_wp2_with fail
  rw [← hV]
  clear hV
  have C := CO.out _ _ HK2.out
  rcases R with _ | ⟨p, ps⟩
  · refine C.mono ?_
    rintro e w1 ⟨rfl, h1⟩
    have HB1 := hide (h1.below HB.out (by omega))
    have HK0 := hide (h1.blk HK0.out (by omega))
    have HK1 := hide (h1.blk HK1.out (by omega))
    clear h1 HB
    refine leaves_cons (f := 53) (args := #[.pointer (some ⟨w.heap.size, 0, none⟩), .pointer (some ⟨w.heap.size + 1, 0, none⟩)]) (by simp) (by simp [go_sem]) ?_
    refine (catch_thrown w.heap.size w1 _ _ _ _ _ HK0.out HK1.out).mono ?_
    rintro e u' w'' ⟨rfl, rfl, rfl⟩
    have FB := hide (((HB1.out.setCell (p := ⟨w.heap.size, 0, none⟩) (by simp) (.int .i64 0)).setCell (p := ⟨w.heap.size, 1, none⟩) (by simp) (.slice none 0 0)).setCell (p := ⟨w.heap.size + 1, 0, none⟩) (by simp) (.int .i64 100))
    have F0 := hide (((HK0.out.set 0 (.int .i64 0)).set 1 (.slice none 0 0)).other (b' := w.heap.size + 1) (by omega) 0 (.int .i64 100))
    have F1 := hide (Blk.set (Blk.other (Blk.other HK1.out (b' := w.heap.size) (by omega) 0 (.int .i64 0)) (b' := w.heap.size) (by omega) 1 (.slice none 0 0)) 0 (.int .i64 100))
    generalize (((w1.setCell ⟨w.heap.size, 0, none⟩ (.int .i64 0)).setCell ⟨w.heap.size, 1, none⟩ (.slice none 0 0)).setCell ⟨w.heap.size + 1, 0, none⟩ (.int .i64 100)) = wf at FB F0 F1 ⊢
    have f0 : wf.cell? ⟨w.heap.size, 0, none⟩ = some (.int .i64 0) := by simpa using F0.out.cell 0
    have f1 : wf.cell? ⟨w.heap.size, 1, none⟩ = some (.slice none 0 0) := by simpa using F0.out.cell 1
    have g0 : wf.cell? ⟨w.heap.size + 1, 0, none⟩ = some (.int .i64 100) := by simpa using F1.out.cell 0
    show Leaves _ _ _ _ [] (settle (.panicking [{ v := .iface 33 (.int .i64 100), recovered := true }])) wf
    rw [show settle (.panicking [{ v := .iface 33 (.int .i64 100), recovered := true }]) = .returning from rfl]
    refine ⟨.tuple #[.agg #[.int .i64 0, .slice none 0 0], .int .i64 100], ?_, rfl, FB.out⟩
    simp [results, Tryd.results37, go_sem, f0, f1, g0]
  · refine C.mono ?_
    rintro e w1 ⟨v, rfl, q1, h1⟩
    obtain ⟨ad, cap, hv, _⟩ := q1.lst
    subst hv
    have HB1 := hide (h1.below HB.out (by omega))
    have HK0 := hide (h1.blk HK0.out (by omega))
    have HK1 := hide (h1.blk HK1.out (by omega))
    have HQ := hide (q1.lower (show w.heap.size + 2 ≤ V.heap.size by omega))
    generalize (ints ps).length = LN at HQ ⊢
    obtain ⟨⟨r0, r1⟩, z0, z1⟩ := HK0.out.two
    have c1 : w1.cell? ⟨w.heap.size + 1, 0, none⟩ = some (.int .i64 0) := by simpa using HK1.out.cell 0
    have f1 := HK1.out.frozen 0
    clear h1 HB q1 C
    go_wp2_with fail
    clear r0 r1 z0 z1 c1 f1
    have FB := hide (((HB1.out.setCell (p := ⟨w.heap.size, 0, none⟩) (by simp) (.int .i64 (p : Int))).setCell (p := ⟨w.heap.size, 1, none⟩) (by simp) (.slice ad LN cap)).setCell (p := ⟨w.heap.size + 1, 0, none⟩) (by simp) (.int .i64 0))
    have F0 := hide (((HK0.out.set 0 (.int .i64 (p : Int))).set 1 (.slice ad LN cap)).other (b' := w.heap.size + 1) (by omega) 0 (.int .i64 0))
    have F1 := hide (Blk.set (Blk.other (Blk.other HK1.out (b' := w.heap.size) (by omega) 0 (.int .i64 (p : Int))) (b' := w.heap.size) (by omega) 1 (.slice ad LN cap)) 0 (.int .i64 0))
    have FQ := hide (irow_set (o := 0) (irow_set (o := 1) (irow_set (o := 0) HQ.out (show w.heap.size < w.heap.size + 2 by omega) (.int .i64 (p : Int))) (show w.heap.size < w.heap.size + 2 by omega) (.slice ad LN cap)) (show w.heap.size + 1 < w.heap.size + 2 by omega) (.int .i64 0))
    generalize (((w1.setCell ⟨w.heap.size, 0, none⟩ (.int .i64 (p : Int))).setCell ⟨w.heap.size, 1, none⟩ (.slice ad LN cap)).setCell ⟨w.heap.size + 1, 0, none⟩ (.int .i64 0)) = wf at FB F0 F1 FQ ⊢
    have f0 : wf.cell? ⟨w.heap.size, 0, none⟩ = some (.int .i64 (p : Int)) := by simpa using F0.out.cell 0
    have f1 : wf.cell? ⟨w.heap.size, 1, none⟩ = some (.slice ad LN cap) := by simpa using F0.out.cell 1
    have g0 : wf.cell? ⟨w.heap.size + 1, 0, none⟩ = some (.int .i64 0) := by simpa using F1.out.cell 0
    refine leaves_cons (f := 53) (args := #[.pointer (some ⟨w.heap.size, 0, none⟩), .pointer (some ⟨w.heap.size + 1, 0, none⟩)]) (by simp) (by simp [go_sem]) ?_
    refine (catch_idle _ _ _).mono ?_
    rintro e u' w'' ⟨rfl, rfl, hw⟩
    subst w''
    refine ⟨.tuple #[.agg #[.int .i64 (p : Int), .slice ad LN cap], .int .i64 0], ?_, ⟨_, rfl, FQ.out.lower (by omega), FB.out⟩⟩
    simp [results, Tryd.results37, go_sem, f0, f1, g0]
def ptV (R : Option (Nat × List Nat)) : Int := match R with | some (p, _) => (p : Int) | none => 0
theorem below_alloc {w w1 : World} (h : Below w.heap.size w w1) (o : Obj) : Below w.heap.size w (w1.alloc o) := below_t5 h ((Below.refl _ _).alloc (Nat.le_refl _) _)
def prV (l : List UInt8) (ps : List Nat) : List Nat := ps.map (n2 l)
theorem prV_take (l : List UInt8) (ps : List Nat) (k : Nat) (h : k < ps.length) : prV l (ps.take (k + 1)) = prV l (ps.take k) ++ [n2 l (ps.getD k 0)] := by
  unfold prV
  rw [List.take_succ_eq_append_getElem h, List.map_append, List.getD_eq_getElem?_getD, List.getElem?_eq_getElem h]
  rfl
def PrR (w : World) (l : List UInt8) (R : Option (Nat × List Nat)) (e : Ending) (w' : World) : Prop := match R with
  | some (_, ps) => ∃ v, e = .returned (.tuple #[v, .int .i64 0]) ∧ IRow w' w.heap.size v (ints (prV l ps)) ∧ Below w.heap.size w w'
  | none => e = .returned (.tuple #[.slice none 0 0, .int .i64 100]) ∧ Below w.heap.size w w'
theorem ints_at (ps : List Nat) (k : Nat) (h : k < ps.length) : (ints ps).getD k 0 = ((ps.getD k 0 : Nat) : Int) := by
  unfold ints
  rw [List.getD_eq_getElem?_getD, List.getD_eq_getElem?_getD, List.getElem?_map, List.getElem?_eq_getElem h]
  rfl
set_option maxRecDepth 8000 in
set_option maxHeartbeats 2000000 in
theorem parts_any (s : ByteArray) (w : World) (hs : s.size ≤ 1000000) : Calls Tryd.prog 20 #[.string s] w (PrR w s.data.toList (shV s.data.toList)) := by
  have C := look_any s w hs
  have hbd : ∀ p ps, shV s.data.toList = some (p, ps) → (∀ x ∈ ps, x + 2 ≤ s.size) ∧ ps.length ≤ 64 := fun p ps h => by
    have := shV_bd h
    rw [← Lib.size_eq] at this
    exact this.2
  generalize shV s.data.toList = R at C hbd ⊢
  rcases R with _ | ⟨p, ps⟩
  · have C := hide C
    clear hbd
    go_enter Tryd.func20, Tryd.ntmps20
    go_wp2_with fail
    refine C.out.mono ?_
    rintro e w1 ⟨rfl, h1⟩
    have H1 := hide (below_alloc h1 (.cells #[.int .i64 0, .slice none 0 0] 79))
    clear h1
    go_wp2_with fail
    go_loop [6, 17] (fun a i => a = .slice none 0 0 ∧ i = .int .i64 0) (fun _ _ => 0)
    case atStart => exact ⟨rfl, rfl⟩
    case round =>
      obtain ⟨rfl, rfl⟩ := hrel
      go_wp2_with fail
      go_ret2
      exact ⟨rfl, H1.out⟩
  · have C := hide C
    obtain ⟨hx, hl⟩ := hbd p ps rfl
    clear hbd
    have HX := hide hx
    have hs' : (s.size : Int) ≤ 1000000 := by omega
    go_enter Tryd.func20, Tryd.ntmps20
    go_wp2_with fail
    refine C.out.mono ?_
    rintro e w1 ⟨v, rfl, q1, h1⟩
    obtain ⟨ad, cap, hv, hL, hc1, hc2⟩ := q1.lst
    subst hv
    rw [ints_len] at hc1 ⊢
    have hcap : (ps.length : Int) ≤ (cap : Int) := by omega
    have hll : (ps.length : Int) ≤ 64 := by omega
    have hb := (Below.refl w1.heap.size w1).alloc (Nat.le_refl _) (.cells #[.int .i64 (p : Int), .slice ad ps.length cap] 79)
    have H1 := hide (below_alloc h1 (.cells #[.int .i64 (p : Int), .slice ad ps.length cap] 79))
    have H2 := hide (hL.below hb)
    have HLN : Hid (ps.length = ps.length) := hide rfl
    clear h1 q1 hL hb hc1 hc2 hx C
    go_wp2_with fail
    generalize w1.alloc (.cells #[.int .i64 (p : Int), .slice ad ps.length cap] 79) = V at H1 H2 ⊢
    go_loopw [6, 17] (fun a i wr => ∃ k : Nat, i = .int .i64 (k : Int) ∧ Hid (k ≤ ps.length ∧ IRow wr V.heap.size a (ints (prV s.data.toList (ps.take k))) ∧ Below V.heap.size V wr)) (fun _ i _ => ps.length - (intOf i).toNat)
    case atStart => exact ⟨0, rfl, hide ⟨by omega, IRow.nil _ _, Below.refl _ _⟩⟩
    case round =>
      obtain ⟨k, rfl, HV⟩ := hrel
      obtain ⟨k1, k2, k3⟩ := HV.out
      have hk0 : (0 : Int) ≤ (k : Int) := by omega
      clear HV
      by_cases hlt : k < ps.length
      · have hlt' : (k : Int) < (ps.length : Int) := by omega
        have K2 := hide k2
        have K3 := hide k3
        obtain ⟨ad', cap', hv, _, h64, _⟩ := k2.lst
        rcases (H2.out.below k3) with hz | ⟨b, o, rfl, hb, hcell⟩
        · have := ints_len ps; rw [hz] at this; simp at this; omega
        have hc := hcell k (by rw [ints_len]; omega)
        rw [ints_at ps k hlt] at hc
        have hP : ps.getD k 0 + 2 ≤ s.size := by
          have hm : ps.getD k 0 ∈ ps := by
            rw [List.getD_eq_getElem?_getD, List.getElem?_eq_getElem hlt]
            exact List.getElem_mem hlt
          exact HX.out _ hm
        have HS := hide (prV_take s.data.toList ps k hlt)
        have CN := hide (fun w => num_any (s.extract (ps.getD k 0) (ps.getD k 0 + 2)) w (by rw [ext_size s _ 2 hP]; omega))
        rw [ext2 s _ hP] at CN
        have hlen : (ints (prV s.data.toList (ps.take k))).length ≤ 64 := by rw [ints_len]; unfold prV; simp; omega
        obtain ⟨v', w2, hr, r1, r2, r3, r4, r5⟩ := app_i1 ((n2 s.data.toList (ps.getD k 0) : Nat) : Int) k2 k3.size (by omega) wr.heap.size rfl
        have HRU := hide hr
        have H5 : Hid (IRow w2 V.heap.size v' (ints (prV s.data.toList (ps.take (k + 1))))) := hide (by rw [HS.out, ints_snoc]; exact r1)
        have H6 := hide (k3.trans r5)
        have n0 : (0 : Int) ≤ ((ps.getD k 0 : Nat) : Int) := by omega
        have n1 : ((ps.getD k 0 : Nat) : Int) + 2 ≤ (s.size : Int) := by omega
        have n2' : ((ps.getD k 0 : Nat) : Int) ≤ ((ps.getD k 0 : Nat) : Int) + 2 := by omega
        have n3 : (((ps.getD k 0 : Nat) : Int) + 2).toNat = ps.getD k 0 + 2 := by omega
        generalize ps.getD k 0 = P at hc CN HRU n0 n1 n2' n3
        clear hr r1 r2 r3 r4 r5 hcell k2 k3 hP hlen HS hv
        go_wp2_with fail
        refine (CN.out _).mono ?_
        rintro e wy ⟨rfl, hy⟩
        subst wy
        go_wp2_with (at_builtin; refine Lib.wpList_append_run _ rfl _ _ _ _ rfl _ _ rfl rfl _ _ HRU.out ?_)
        go_roundw
        case rel => exact ⟨k + 1, by go_num, hide ⟨by omega, H5.out, H6.out⟩⟩
        case measure => simp [intOf]; omega
      · have hlt' : ¬ (k : Int) < (ps.length : Int) := by omega
        have E := hide (show ps.take k = ps from List.take_of_length_le (by omega))
        have K2 := hide k2
        have K3 := hide k3
        clear k2 k3
        go_wp2_with fail
        go_ret2
        refine ⟨_, rfl, ?_, below_t5 H1.out K3.out⟩
        have := K2.out
        rw [E.out] at this
        exact this.lower H1.out.size
def SLst (w : World) (a : Option Addr) (zs : List ByteArray) : Prop :=
  zs = [] ∨ ∃ b off, a = some ⟨b, off, none⟩ ∧ b < w.heap.size ∧ ∀ i, i < zs.length → w.cell? ⟨b, off + i, none⟩ = some (.string (zs.getD i ⟨#[]⟩))
theorem SLst.below {w w' : World} {a : Option Addr} {zs : List ByteArray} (h : SLst w a zs) (hb : Below w.heap.size w w') : SLst w' a zs := by
  rcases h with h | ⟨b, off, h1, h2, h3⟩
  · exact Or.inl h
  · exact Or.inr ⟨b, off, h1, Nat.lt_of_lt_of_le h2 hb.size, fun i hi => by rw [hb.cell (p := ⟨b, off + i, none⟩) h2]; exact h3 i hi⟩
theorem ksame_any (a b : Option Addr) (len ca cb : Nat) (zs : List Int) (w : World) (hl : zs.length = len) (h4 : len ≤ 1048576) (hA : Lst w a zs) (hB : Lst w b zs) :
    Calls Tryd.prog 11 #[.slice a len ca, .slice b len cb] w fun e w' => e = .returned (.bool true) ∧ ∃ n, w' = w.drewN n := by
  have HA := hide hA
  have HB := hide hB
  have Hl := hide hl
  have h5 : (len : Int) ≤ 1048576 := by omega
  have t0 : ((len : Int) != (len : Int)) = false := by simp
  clear hA hB hl
  go_enter Tryd.func11, Tryd.ntmps11
  go_wp2_with fail
  go_loopw [5] (fun vi wr => ∃ (k n : Nat), vi = .int .i64 k ∧ wr = w.drewN n ∧ Hid (k ≤ len)) (fun vi _ => len - (intOf vi).toNat)
  case atStart => exact ⟨0, 0, rfl, rfl, hide (by omega)⟩
  case round =>
    obtain ⟨k, n, rfl, rfl, HK⟩ := hrel
    by_cases hlt : k < len
    · have hlt' : (k : Int) < (len : Int) := by omega
      have hl := Hl.out
      rcases HA.out with hz | ⟨b1, o1, rfl, hb1, hcell1⟩
      · rw [hz] at hl; simp at hl; omega
      rcases HB.out with hz | ⟨b2, o2, rfl, hb2, hcell2⟩
      · rw [hz] at hl; simp at hl; omega
      have hc1 := hcell1 k (by omega)
      have hc2 := hcell2 k (by omega)
      generalize zs.getD k 0 = z at *
      clear hcell1 hcell2 hl
      go_wp2_with fail
      go_quiet (fail)
      go_wp2
      go_roundw
      case rel => exact ⟨k + 1, _, by go_num, rfl, hide (by omega)⟩
      case measure => simp [intOf]; omega
    · have hlt' : ¬ (k : Int) < (len : Int) := by omega
      go_wp2
      go_ret
      exact ⟨rfl, n, rfl⟩
def arw (f : Nat → Value) (z : Value) (n k : Nat) : Array Value := ((List.range n).map fun i => if i < k then f i else z).toArray
theorem arw_size (f : Nat → Value) (z : Value) (n k : Nat) : (arw f z n k).size = n := by simp [arw]
theorem arw_at (f : Nat → Value) (z : Value) (n k j : Nat) (h : j < n) : (arw f z n k)[j]? = some (if j < k then f j else z) := by simp [arw, h]
theorem arw_set (f : Nat → Value) (z : Value) (n k : Nat) (h : k < n) : (arw f z n k).setIfInBounds k (f k) = arw f z n (k + 1) := by
  apply Array.ext_getElem?
  intro j
  rw [Array.getElem?_setIfInBounds]
  by_cases hj : j < n
  · rw [arw_at _ _ _ _ _ hj, arw_at _ _ _ _ _ hj]
    by_cases e : k = j
    · subst e; simp [arw_size, hj]
    · rw [if_neg e]
      by_cases h1 : j < k
      · rw [if_pos h1, if_pos (by omega)]
      · rw [if_neg h1, if_neg (by omega)]
  · rw [if_neg (by rintro rfl; exact hj h)]
    rw [Array.getElem?_eq_none (by rw [arw_size]; omega), Array.getElem?_eq_none (by rw [arw_size]; omega)]
theorem arw_zero (f : Nat → Value) (z : Value) (n : Nat) : arw f z n 0 = Array.replicate n z := by
  apply Array.ext_getElem?
  intro j
  by_cases hj : j < n
  · rw [arw_at _ _ _ _ _ hj]; simp [hj]
  · rw [Array.getElem?_eq_none (by rw [arw_size]; omega), Array.getElem?_eq_none (by simp; omega)]
theorem make_ints (n : Nat) (z : Int) (hz : z = (n : Int)) (hn : n ≤ 100000) (x : World) : (Instr.makeSlice 23 (.int .i64 z) (.int .i64 z)).run Tryd.prog x = .ok (.slice (some ⟨x.heap.size, 0, none⟩) n n) (x.alloc (.cells (Array.replicate n (.int .i64 0)) 3)) := by
  subst hz
  obtain ⟨i0, hi, hz0, hz1, hz2⟩ := info_parts5 info_int
  have h := run_make (P := Tryd.prog) x 23 3 i0 (.int .i64 0) Tryd.underlying23 hi hz0 .i64 .i64 n n (by omega) (Int.le_refl _) (by rw [hz2]; omega) (by omega)
  rw [hz1] at h
  simp only [Int.toNat_natCast, Nat.mul_one] at h
  have e : madeCells (Value.int .i64 0).cells n = Array.replicate n (.int .i64 0) := by
    apply Array.ext (by simp [madeCells])
    intro j h1 h2
    simp [madeCells, Value.cells, Nat.mod_one]
  rw [e] at h
  exact h
theorem info_str : (Tryd.prog.info? 9).map (fun i => (i.zero, i.size, i.bytes)) = some (some (.string ⟨#[]⟩), 1, 16) := by kernel_rfl
theorem make_strs (n : Nat) (hn : n ≤ 100000) (x : World) : (Instr.makeSlice 26 (.int .i64 (n : Int)) (.int .i64 (n : Int))).run Tryd.prog x = .ok (.slice (some ⟨x.heap.size, 0, none⟩) n n) (x.alloc (.cells (Array.replicate n (.string ⟨#[]⟩)) 9)) := by
  obtain ⟨i0, hi, hz0, hz1, hz2⟩ := info_parts5 info_str
  have h := run_make (P := Tryd.prog) x 26 9 i0 (.string ⟨#[]⟩) Tryd.underlying26 hi hz0 .i64 .i64 n n (by omega) (Int.le_refl _) (by rw [hz2]; omega) (by omega)
  rw [hz1] at h
  simp only [Int.toNat_natCast, Nat.mul_one] at h
  have e : madeCells (Value.string ⟨#[]⟩).cells n = Array.replicate n (.string ⟨#[]⟩) := by
    apply Array.ext (by simp [madeCells])
    intro j h1 h2
    simp [madeCells, Value.cells, Nat.mod_one]
  rw [e] at h
  exact h
end Go.Proofs.YthnpnkiomknkeaaDoor.G10
namespace Go.Proofs.YthnpnkiomknkeaaDoor.F12
open Go.RowKit Go.Deep
set_option linter.unusedVariables false
set_option linter.unusedSimpArgs false
def bls (f : Nat → Bool) (n k : Nat) : Array Value := G10.arw (fun i => .bool (f i)) (.bool false) n k
theorem bls_at (f : Nat → Bool) (n k j : Nat) (h : j < n) : (bls f n k)[j]? = some (.bool (if j < k then f j else false)) := by
  unfold bls
  rw [G10.arw_at _ _ _ _ _ h]
  split <;> rfl
theorem bls_all (f : Nat → Bool) (n j : Nat) (h : j < n) : (bls f n n)[j]? = some (.bool (f j)) := by rw [bls_at f n n j h, if_pos h]
def fst (f : Nat → Bool) (n : Nat) : Option Nat := (List.range n).find? f
theorem fst_none {f : Nat → Bool} {n : Nat} (h : ∀ i, i < n → f i = false) : fst f n = none := by
  unfold fst
  rw [List.find?_eq_none]
  intro i hi
  rw [h i (List.mem_range.1 hi)]; simp
theorem fst_some {f : Nat → Bool} {n k : Nat} (hk : k < n) (h : f k = true) (hj : ∀ i, i < k → f i = false) : fst f n = some k := by
  unfold fst
  rw [List.find?_range_eq_some]
  refine ⟨h, List.mem_range.2 hk, fun j hj' => ?_⟩
  rw [hj j hj']; rfl
def ixI (o : Option Nat) : Int := match o with | some k => (k : Int) | none => -1
theorem ix_any (o : Option Nat) : decide ((0 : Int) ≤ ixI o) = o.isSome := by
  cases o with
  | none => rfl
  | some k => simp [ixI]
theorem any_fst (f : Nat → Bool) (n : Nat) : (fst f n).isSome = (List.range n).any f := by
  unfold fst
  rw [Bool.eq_iff_iff, List.find?_isSome, List.any_eq_true]
set_option maxHeartbeats 1000000 in
theorem index_any (g n c : Nat) (f : Nat → Bool) (w : World) (hn : n ≤ 1000000) (hk : Blk w g (bls f n n) 4) :
    Calls Tryd.prog 62 #[.slice (some ⟨g, 0, none⟩) n c, .bool true] w fun e w' => e = .returned (.int .i64 (ixI (fst f n))) ∧ w' = w := by
  have hn' : (n : Int) ≤ 1000000 := by omega
  have HK := hide hk
  have glt := hk.lt
  clear hk
  go_enter Tryd.func62, Tryd.ntmps62
  go_wp2_with fail
  go_loopw [8] (fun vi wr => ∃ j : Nat, vi = .int .i64 j ∧ Hid (wr = w ∧ j ≤ n ∧ ∀ i, i < j → f i = false)) (fun vi _ => n - (intOf vi).toNat)
  case atStart => exact ⟨0, rfl, hide ⟨rfl, by omega, fun i hi => by omega⟩⟩
  case round =>
    obtain ⟨j, rfl, HV⟩ := hrel
    obtain ⟨hw, hj, hno⟩ := HV.out
    replace hw := hw.symm
    subst hw
    have hj0 : (0 : Int) ≤ (j : Int) := by omega
    have HNO := hide hno
    clear HV hno
    by_cases hlt : j < n
    case neg =>
      have hlt' : ¬ (j : Int) < (n : Int) := by omega
      have E := hide (fst_none (f := f) (n := n) fun i hi => HNO.out i (by omega))
      clear hlt hj
      go_wp2_with fail
      go_ret
      exact ⟨by rw [E.out]; rfl, rfl⟩
    have hlt' : (j : Int) < (n : Int) := by omega
    have c0 := HK.out.cell j
    rw [bls_all f n j hlt] at c0
    cases hf : f j with
    | true =>
      rw [hf] at c0
      have E := hide (fst_some hlt hf HNO.out)
      clear hlt hj hf
      go_wp2_with fail
      go_ret
      exact ⟨by rw [E.out]; rfl, rfl⟩
    | false =>
      rw [hf] at c0
      have HN2 := hide (show ∀ i, i < j + 1 → f i = false from fun i hi => by
        rcases Nat.lt_or_ge i j with h | h
        · exact HNO.out i h
        · rw [show i = j by omega]; exact hf)
      clear hf
      go_wp2_with fail
      go_roundw
      case rel => exact ⟨j + 1, by go_num, hide ⟨by first | rfl | trivial, by omega, HN2.out⟩⟩
      case measure => simp [intOf]; omega
theorem contains_any (g n c : Nat) (f : Nat → Bool) (w : World) (hn : n ≤ 1000000) (hk : Blk w g (bls f n n) 4) :
    Calls Tryd.prog 50 #[.slice (some ⟨g, 0, none⟩) n c, .bool true] w fun e w' => e = .returned (.bool ((List.range n).any f)) ∧ w' = w := by
  have C := hide (index_any g n c f w hn hk)
  have E := hide (show decide ((0 : Int) ≤ ixI (fst f n)) = (List.range n).any f by rw [ix_any, any_fst])
  generalize (List.range n).any f = R at E
  generalize ixI (fst f n) = I at C E
  clear hk
  go_enter Tryd.func50, Tryd.ntmps50
  go_wp2_with fail
  refine C.out.mono ?_
  rintro e w' ⟨rfl, hw'⟩
  replace hw' := hw'.symm
  subst hw'
  go_wp2_with fail
  go_ret
  exact ⟨by rw [← E.out]; rfl, rfl⟩
theorem clo_any (bx g n c z : Nat) (f : Nat → Bool) (w : World) (hz : z < n) (hn : n ≤ 1000000) (hb : Blk w bx #[.slice (some ⟨g, 0, none⟩) n c] 53) (hk : Blk w g (bls f n n) 4) :
    Calls Tryd.prog 49 #[.int .i64 (z : Int), .pointer (some ⟨bx, 0, none⟩)] w fun e w' => e = .returned (.bool (f z)) ∧ w' = w := by
  have c0 := hb.cell 0
  simp at c0
  have c1 := hk.cell z
  rw [bls_all f n z hz] at c1
  have blt := hb.lt
  have glt := hk.lt
  have hz1 : (z : Int) < (n : Int) := by omega
  have hz0 : (0 : Int) ≤ (z : Int) := by omega
  have hn' : (n : Int) ≤ 1000000 := by omega
  generalize f z = R at c1 ⊢
  clear hb hk hz hn
  go_enter Tryd.func49, Tryd.ntmps49
  go_wp2_with fail
  go_ret
  exact ⟨rfl, rfl⟩
set_option maxHeartbeats 1000000 in
theorem indexf_any (a : Option Addr) (l c bx g n cb : Nat) (ps : List Nat) (f : Nat → Bool) (w : World) (hl : ps.length = l) (hl2 : l ≤ 1000000) (hp : ∀ p ∈ ps, p < n) (hn : n ≤ 1000000) (hL : Lst w a (G10.ints ps)) (hb : Blk w bx #[.slice (some ⟨g, 0, none⟩) n cb] 53) (hk : Blk w g (bls f n n) 4) :
    Calls Tryd.prog 61 #[.slice a l c, .func (.func 49) #[] #[.pointer (some ⟨bx, 0, none⟩)]] w fun e w' => e = .returned (.int .i64 (ixI (fst (fun i => f (ps.getD i 0)) l))) ∧ w' = w := by
  have hl' : (l : Int) ≤ 1000000 := by omega
  obtain ⟨R, hR⟩ : ∃ R, ixI (fst (fun i => f (ps.getD i 0)) l) = R := ⟨_, rfl⟩
  rw [hR]
  have HR := hide hR
  have HL := hide hL
  have HN := hide hl
  have CC := hide (fun z hz => clo_any bx g n cb z f w hz hn hb hk)
  have HP := hide (show ∀ i, i < l → ps.getD i 0 < n from fun i hi => by
    rw [List.getD_eq_getElem?_getD, List.getElem?_eq_getElem (by omega)]
    exact hp _ (List.getElem_mem _))
  clear hL hb hk hp hl hR
  go_enter Tryd.func61, Tryd.ntmps61
  go_wp2_with fail
  go_loopw [8] (fun vi wr => ∃ j : Nat, vi = .int .i64 j ∧ Hid (wr = w ∧ j ≤ l ∧ ∀ i, i < j → f (ps.getD i 0) = false)) (fun vi _ => l - (intOf vi).toNat)
  case atStart => exact ⟨0, rfl, hide ⟨rfl, by omega, fun i hi => by omega⟩⟩
  case round =>
    obtain ⟨j, rfl, HV⟩ := hrel
    obtain ⟨hw, hj, hno⟩ := HV.out
    replace hw := hw.symm
    subst hw
    have hj0 : (0 : Int) ≤ (j : Int) := by omega
    have HNO := hide hno
    clear HV hno
    by_cases hlt : j < l
    case neg =>
      have hlt' : ¬ (j : Int) < (l : Int) := by omega
      have E := hide (fst_none (f := fun i => f (ps.getD i 0)) (n := l) fun i hi => HNO.out i (by omega))
      clear hlt hj
      go_wp2_with fail
      go_ret
      exact ⟨by rw [← HR.out, E.out]; rfl, rfl⟩
    have hlt' : (j : Int) < (l : Int) := by omega
    obtain ⟨b, o, rfl, hbl, hcell⟩ : ∃ b o, a = some ⟨b, o, none⟩ ∧ b < w.heap.size ∧ ∀ i, i < (G10.ints ps).length → w.cell? ⟨b, o + i, none⟩ = some (.int .i64 ((G10.ints ps).getD i 0)) := by
      rcases HL.out with hz' | h
      · have : (G10.ints ps).length = l := by unfold G10.ints; rw [List.length_map, HN.out]
        rw [hz'] at this; simp at this; omega
      · exact h
    have c0 := hcell j (by unfold G10.ints; rw [List.length_map, HN.out]; exact hlt)
    rw [G10.ints_at ps j (by rw [HN.out]; exact hlt)] at c0
    have hpj := HP.out j hlt
    obtain ⟨z, hz⟩ : ∃ z, ps.getD j 0 = z := ⟨_, rfl⟩
    rw [hz] at c0 hpj
    have C1 := hide (CC.out z hpj)
    cases hf : f z with
    | true =>
      simp only [hf] at C1
      have E := hide (fst_some (f := fun i => f (ps.getD i 0)) hlt (by simp only [hz]; exact hf) HNO.out)
      clear hlt hj hf hcell hz hpj
      go_wp2_with fail
      refine C1.out.mono ?_
      rintro e w' ⟨rfl, hw'⟩
      replace hw' := hw'.symm
      subst hw'
      go_wp2_with fail
      go_ret
      exact ⟨by rw [← HR.out, E.out]; rfl, rfl⟩
    | false =>
      simp only [hf] at C1
      have HN2 := hide (show ∀ i, i < j + 1 → f (ps.getD i 0) = false from fun i hi => by
        rcases Nat.lt_or_ge i j with h | h
        · exact HNO.out i h
        · rw [show i = j by omega, hz]; exact hf)
      clear hf hcell hz hpj
      go_wp2_with fail
      refine C1.out.mono ?_
      rintro e w' ⟨rfl, hw'⟩
      replace hw' := hw'.symm
      subst hw'
      go_wp2_with fail
      go_roundw
      case rel => exact ⟨j + 1, by go_num, hide ⟨by first | rfl | trivial, by omega, HN2.out⟩⟩
      case measure => simp [intOf]; omega
theorem any_map (ps : List Nat) (f : Nat → Bool) : (List.range ps.length).any (fun i => f (ps.getD i 0)) = ps.any f := by
  rw [Bool.eq_iff_iff, List.any_eq_true, List.any_eq_true]
  constructor
  · rintro ⟨i, hi, h⟩
    have hi := List.mem_range.1 hi
    rw [List.getD_eq_getElem?_getD, List.getElem?_eq_getElem hi] at h
    exact ⟨_, List.getElem_mem hi, h⟩
  · rintro ⟨x, hx, h⟩
    obtain ⟨i, hi, rfl⟩ := List.getElem_of_mem hx
    refine ⟨i, List.mem_range.2 hi, ?_⟩
    rw [List.getD_eq_getElem?_getD, List.getElem?_eq_getElem hi]
    exact h
theorem containsf_any (a : Option Addr) (l c bx g n cb : Nat) (ps : List Nat) (f : Nat → Bool) (w : World) (hl : ps.length = l) (hl2 : l ≤ 1000000) (hp : ∀ p ∈ ps, p < n) (hn : n ≤ 1000000) (hL : Lst w a (G10.ints ps)) (hb : Blk w bx #[.slice (some ⟨g, 0, none⟩) n cb] 53) (hk : Blk w g (bls f n n) 4) :
    Calls Tryd.prog 48 #[.slice a l c, .func (.func 49) #[] #[.pointer (some ⟨bx, 0, none⟩)]] w fun e w' => e = .returned (.bool (ps.any f)) ∧ w' = w := by
  have C := hide (indexf_any a l c bx g n cb ps f w hl hl2 hp hn hL hb hk)
  have E := hide (show decide ((0 : Int) ≤ ixI (fst (fun i => f (ps.getD i 0)) l)) = ps.any f by rw [ix_any, any_fst, ← hl, any_map])
  generalize ps.any f = R at E
  generalize ixI (fst (fun i => f (ps.getD i 0)) l) = I at C E
  clear hL hb hk hp hl
  go_enter Tryd.func48, Tryd.ntmps48
  go_wp2_with fail
  refine C.out.mono ?_
  rintro e w' ⟨rfl, hw'⟩
  replace hw' := hw'.symm
  subst hw'
  go_wp2_with fail
  go_ret
  exact ⟨by rw [← E.out]; rfl, rfl⟩
end Go.Proofs.YthnpnkiomknkeaaDoor.F12
namespace Go.Proofs.YthnpnkiomknkeaaDoor.G10
open Go.RowKit Go.Deep
set_option linter.unusedVariables false
set_option linter.unusedSimpArgs false
theorem cell_other {w : World} {G H o j : Nat} {v : Value} (h : G ≠ H) : (w.setCell ⟨H, o, none⟩ v).cell? ⟨G, j, none⟩ = w.cell? ⟨G, j, none⟩ := World.cell?_of_block (w := w) (Below.heap_setCell _ _ _ _ h)
theorem rone_any (f o n : Nat) (w : World) (hf : f ≤ 65535) (ho : o ≤ 65535) (hn : n ≤ 65535) :
    Calls Tryd.prog 74 #[.int .i64 (f : Int), .int .i64 (o : Int), .int .i64 (n : Int)] w fun e w' => e = .returned (.int .i64 ((wid f o n : Nat) : Int)) ∧ w' = w := by
  cases h1 : hb f o
  · cases h2 : hb f n
    · have hv : wid f o n = 2 := by unfold wid; simp [h1, h2]
      rw [hv]
      have e1 := bit_f hf ho h1
      have e2 := bit_f hf hn h2
      clear hv h1 h2 hf ho hn
      go_enter Tryd.func74, Tryd.ntmps74
      go_wp2_with fail
      go_ret
      exact ⟨rfl, rfl⟩
    · have hv : wid f o n = 0 := by unfold wid; simp [h1, h2]
      rw [hv]
      have e1 := bit_f hf ho h1
      obtain ⟨x, e2, e3, e4⟩ := bit_t hf hn h2
      clear hv h1 h2 hf ho hn
      go_enter Tryd.func74, Tryd.ntmps74
      go_wp2_with fail
      go_ret
      exact ⟨rfl, rfl⟩
  · have hv : wid f o n = 1 := by unfold wid; simp [h1]
    rw [hv]
    obtain ⟨x, e2, e3, e4⟩ := bit_t hf ho h1
    clear hv h1 hf ho hn
    go_enter Tryd.func74, Tryd.ntmps74
    go_wp2_with fail
    go_ret
    exact ⟨rfl, rfl⟩
def scV (f : Nat) : Int := match mtx f with | some k => (k : Int) | none => -1
theorem rscaled_any (f : Nat) (w : World) (hf : f ≤ 65535) : Calls Tryd.prog 72 #[.int .i64 (f : Int)] w fun e w' => e = .returned (.int .i64 (scV f)) ∧ w' = w := by
  have hm : scV f = match mtxB (hb f 8) (hb f 64) (hb f 128) with | some k => (k : Int) | none => -1 := by unfold scV; rw [mtx_bits]
  have HM := hide hm
  clear hm
  by_cases qttt : hb f 8 = true ∧ hb f 64 = true ∧ hb f 128 = true
  · obtain ⟨h1, h2, h3⟩ := qttt
    obtain ⟨x1, e1, d1, c1⟩ := bit_t (f := f) (m := 8) hf (by omega) h1
    have e1 : bits .and .i64 (f : Int) 8 = x1 := e1
    obtain ⟨x2, e2, d2, c2⟩ := bit_t (f := f) (m := 64) hf (by omega) h2
    have e2 : bits .and .i64 (f : Int) 64 = x2 := e2
    obtain ⟨x3, e3, d3, c3⟩ := bit_t (f := f) (m := 128) hf (by omega) h3
    have e3 : bits .and .i64 (f : Int) 128 = x3 := e3
    rw [show scV f = -1 by rw [HM.out, h1, h2, h3]; rfl]
    clear h1 h2 h3 hf HM
    go_enter Tryd.func72, Tryd.ntmps72
    go_wp2_with fail
    go_ret
    exact ⟨rfl, rfl⟩
  by_cases qttf : hb f 8 = true ∧ hb f 64 = true ∧ hb f 128 = false
  · obtain ⟨h1, h2, h3⟩ := qttf
    obtain ⟨x1, e1, d1, c1⟩ := bit_t (f := f) (m := 8) hf (by omega) h1
    have e1 : bits .and .i64 (f : Int) 8 = x1 := e1
    obtain ⟨x2, e2, d2, c2⟩ := bit_t (f := f) (m := 64) hf (by omega) h2
    have e2 : bits .and .i64 (f : Int) 64 = x2 := e2
    have e3 : bits .and .i64 (f : Int) 128 = 0 := bit_f (m := 128) hf (by omega) h3
    rw [show scV f = -1 by rw [HM.out, h1, h2, h3]; rfl]
    clear h1 h2 h3 hf HM
    go_enter Tryd.func72, Tryd.ntmps72
    go_wp2_with fail
    go_ret
    exact ⟨rfl, rfl⟩
  by_cases qtft : hb f 8 = true ∧ hb f 64 = false ∧ hb f 128 = true
  · obtain ⟨h1, h2, h3⟩ := qtft
    obtain ⟨x1, e1, d1, c1⟩ := bit_t (f := f) (m := 8) hf (by omega) h1
    have e1 : bits .and .i64 (f : Int) 8 = x1 := e1
    have e2 : bits .and .i64 (f : Int) 64 = 0 := bit_f (m := 64) hf (by omega) h2
    obtain ⟨x3, e3, d3, c3⟩ := bit_t (f := f) (m := 128) hf (by omega) h3
    have e3 : bits .and .i64 (f : Int) 128 = x3 := e3
    rw [show scV f = -1 by rw [HM.out, h1, h2, h3]; rfl]
    clear h1 h2 h3 hf HM
    go_enter Tryd.func72, Tryd.ntmps72
    go_wp2_with fail
    go_ret
    exact ⟨rfl, rfl⟩
  by_cases qtff : hb f 8 = true ∧ hb f 64 = false ∧ hb f 128 = false
  · obtain ⟨h1, h2, h3⟩ := qtff
    obtain ⟨x1, e1, d1, c1⟩ := bit_t (f := f) (m := 8) hf (by omega) h1
    have e1 : bits .and .i64 (f : Int) 8 = x1 := e1
    have e2 : bits .and .i64 (f : Int) 64 = 0 := bit_f (m := 64) hf (by omega) h2
    have e3 : bits .and .i64 (f : Int) 128 = 0 := bit_f (m := 128) hf (by omega) h3
    rw [show scV f = 2 by rw [HM.out, h1, h2, h3]; rfl]
    clear h1 h2 h3 hf HM
    go_enter Tryd.func72, Tryd.ntmps72
    go_wp2_with fail
    go_ret
    exact ⟨rfl, rfl⟩
  by_cases qftt : hb f 8 = false ∧ hb f 64 = true ∧ hb f 128 = true
  · obtain ⟨h1, h2, h3⟩ := qftt
    have e1 : bits .and .i64 (f : Int) 8 = 0 := bit_f (m := 8) hf (by omega) h1
    obtain ⟨x2, e2, d2, c2⟩ := bit_t (f := f) (m := 64) hf (by omega) h2
    have e2 : bits .and .i64 (f : Int) 64 = x2 := e2
    obtain ⟨x3, e3, d3, c3⟩ := bit_t (f := f) (m := 128) hf (by omega) h3
    have e3 : bits .and .i64 (f : Int) 128 = x3 := e3
    rw [show scV f = -1 by rw [HM.out, h1, h2, h3]; rfl]
    clear h1 h2 h3 hf HM
    go_enter Tryd.func72, Tryd.ntmps72
    go_wp2_with fail
    go_ret
    exact ⟨rfl, rfl⟩
  by_cases qftf : hb f 8 = false ∧ hb f 64 = true ∧ hb f 128 = false
  · obtain ⟨h1, h2, h3⟩ := qftf
    have e1 : bits .and .i64 (f : Int) 8 = 0 := bit_f (m := 8) hf (by omega) h1
    obtain ⟨x2, e2, d2, c2⟩ := bit_t (f := f) (m := 64) hf (by omega) h2
    have e2 : bits .and .i64 (f : Int) 64 = x2 := e2
    have e3 : bits .and .i64 (f : Int) 128 = 0 := bit_f (m := 128) hf (by omega) h3
    rw [show scV f = 4 by rw [HM.out, h1, h2, h3]; rfl]
    clear h1 h2 h3 hf HM
    go_enter Tryd.func72, Tryd.ntmps72
    go_wp2_with fail
    go_ret
    exact ⟨rfl, rfl⟩
  by_cases qfft : hb f 8 = false ∧ hb f 64 = false ∧ hb f 128 = true
  · obtain ⟨h1, h2, h3⟩ := qfft
    have e1 : bits .and .i64 (f : Int) 8 = 0 := bit_f (m := 8) hf (by omega) h1
    have e2 : bits .and .i64 (f : Int) 64 = 0 := bit_f (m := 64) hf (by omega) h2
    obtain ⟨x3, e3, d3, c3⟩ := bit_t (f := f) (m := 128) hf (by omega) h3
    have e3 : bits .and .i64 (f : Int) 128 = x3 := e3
    rw [show scV f = 8 by rw [HM.out, h1, h2, h3]; rfl]
    clear h1 h2 h3 hf HM
    go_enter Tryd.func72, Tryd.ntmps72
    go_wp2_with fail
    go_ret
    exact ⟨rfl, rfl⟩
  by_cases qfff : hb f 8 = false ∧ hb f 64 = false ∧ hb f 128 = false
  · obtain ⟨h1, h2, h3⟩ := qfff
    have e1 : bits .and .i64 (f : Int) 8 = 0 := bit_f (m := 8) hf (by omega) h1
    have e2 : bits .and .i64 (f : Int) 64 = 0 := bit_f (m := 64) hf (by omega) h2
    have e3 : bits .and .i64 (f : Int) 128 = 0 := bit_f (m := 128) hf (by omega) h3
    rw [show scV f = 0 by rw [HM.out, h1, h2, h3]; rfl]
    clear h1 h2 h3 hf HM
    go_enter Tryd.func72, Tryd.ntmps72
    go_wp2_with fail
    go_ret
    exact ⟨rfl, rfl⟩
  exfalso
  cases h1 : hb f 8 <;> cases h2 : hb f 64 <;> cases h3 : hb f 128 <;> simp_all
theorem all_at (l : List UInt8) (a : Nat) : ((l.drop a).all (fun c => c.toNat == 0)) = true ↔ ∀ i, a ≤ i → i < l.length → bt l i = 0 := by
  rw [List.all_eq_true]
  constructor
  · intro h i h1 h2
    have hm : l.getD i 0 ∈ l.drop a := by
      rw [List.getD_eq_getElem?_getD, List.getElem?_eq_getElem h2]
      show l[i] ∈ l.drop a
      rw [List.mem_drop_iff_getElem]
      exact ⟨i - a, by omega, by congr 1; omega⟩
    simpa [bt] using h _ hm
  · intro h c hc
    rw [List.mem_drop_iff_getElem] at hc
    obtain ⟨i, hi, rfl⟩ := hc
    have := h (a + i) (by omega) (by omega)
    unfold bt at this
    rw [List.getD_eq_getElem?_getD, List.getElem?_eq_getElem (by omega)] at this
    simpa using this
theorem rzeros_any (s : ByteArray) (a : Nat) (z : Int) (w : World) (hz : z = (a : Int)) (hs : s.size ≤ 1000000) (ha : a ≤ 10000000) : Calls Tryd.prog 73 #[.string s, .int .i64 z] w fun e w' => e = .returned (.bool (tailB s.data.toList a)) ∧ w' = w := by
  subst hz
  have hs' : (s.size : Int) ≤ 1000000 := by omega
  have ha' : (a : Int) ≤ 10000000 := by omega
  have ha0 : (0 : Int) ≤ (a : Int) := by omega
  by_cases h : a ≤ s.size
  case neg =>
    have hv : tailB s.data.toList a = false := by unfold tailB; rw [decide_eq_false (by rw [← Lib.size_eq]; exact h)]; rfl
    rw [hv]
    have hlt : (s.size : Int) < (a : Int) := by omega
    clear hv h
    go_enter Tryd.func73, Tryd.ntmps73
    go_wp2_with fail
    go_ret
    exact ⟨rfl, rfl⟩
  have hv : tailB s.data.toList a = (s.data.toList.drop a).all (fun c => c.toNat == 0) := by unfold tailB; rw [decide_eq_true (by rw [← Lib.size_eq]; exact h)]; rfl
  have HV := hide hv
  have hle : ¬ (s.size : Int) < (a : Int) := by omega
  clear hv
  go_enter Tryd.func73, Tryd.ntmps73
  go_wp2_with fail
  go_loop [5] (fun v => ∃ k : Nat, v = .int .i64 (k : Int) ∧ Hid (a ≤ k ∧ k ≤ s.size ∧ ∀ i, a ≤ i → i < k → bt s.data.toList i = 0)) (fun v => s.size - (intOf v).toNat)
  case atStart => exact ⟨a, rfl, hide ⟨Nat.le_refl _, h, fun i h1 h2 => by omega⟩⟩
  case round =>
    obtain ⟨k, rfl, HK⟩ := hrel
    obtain ⟨k0, k1, k2⟩ := HK.out
    have hk0 : (0 : Int) ≤ (k : Int) := by omega
    have K2 := hide k2
    clear HK k2
    by_cases hk : k < s.size
    · have hk' : (k : Int) < (s.size : Int) := by omega
      have hbt := bt_at s k hk
      by_cases h0 : s[k].toNat = 0
      · have h0' : ((s[k].toNat : Int) == 0) = true := by rw [beq_iff_eq]; omega
        have K3 : Hid (∀ i, a ≤ i → i < k + 1 → bt s.data.toList i = 0) := hide fun i h1 h2 => by
          by_cases e : i = k
          · subst e; omega
          · exact K2.out i h1 (by omega)
        clear hbt h0
        go_wp2_with fail
        go_round
        case rel => exact ⟨k + 1, by go_num, hide ⟨by omega, by omega, K3.out⟩⟩
        case measure => simp [intOf]; omega
      · have h0' : ((s[k].toNat : Int) == 0) = false := by rw [beq_eq_false_iff_ne]; omega
        have E := hide (show tailB s.data.toList a = false by
          rw [HV.out]
          cases e : (s.data.toList.drop a).all (fun c => c.toNat == 0) with
          | false => rfl
          | true => exact absurd ((all_at _ _).1 e k k0 (by rw [← Lib.size_eq]; exact hk)) (by omega))
        clear hbt h0
        go_wp2_with fail
        go_ret
        exact ⟨by rw [E.out]; rfl, rfl⟩
    · have hk' : ¬ (k : Int) < (s.size : Int) := by omega
      have E := hide (show tailB s.data.toList a = true by
        rw [HV.out, all_at]
        intro i h1 h2
        rw [← Lib.size_eq] at h2
        exact K2.out i h1 (by omega))
      go_wp2_with fail
      go_ret
      exact ⟨by rw [E.out]; rfl, rfl⟩
abbrev zs3 : Array Value := #[.int .i64 0, .slice none 0 0, .slice none 0 0]
theorem _root_.Go.Proofs.YthnpnkiomknkeaaDoor.Blk.three {w : World} {b : Nat} {u v x : Value} {t : TypeId} (h : Blk w b #[u, v, x] t) : (w.cell? ⟨b, 0, none⟩ = some u ∧ w.cell? ⟨b, 1, none⟩ = some v ∧ w.cell? ⟨b, 2, none⟩ = some x) ∧ w.frozen? ⟨b, 0, none⟩ = false ∧ w.frozen? ⟨b, 1, none⟩ = false ∧ w.frozen? ⟨b, 2, none⟩ = false :=
  ⟨⟨h.cell 0, h.cell 1, h.cell 2⟩, h.frozen 0, h.frozen 1, h.frozen 2⟩
theorem st3 {V : World} {B : Nat} {u0 u1 u2 : Value} {t : TypeId} (hk : Blk V B #[u0, u1, u2] t) (x y z : Value) : Blk (((V.setCell ⟨B, 0, none⟩ x).setCell ⟨B, 1, none⟩ y).setCell ⟨B, 2, none⟩ z) B #[x, y, z] t := by
  have := ((hk.set 0 x).set 1 y).set 2 z
  simpa using this
theorem st3_below {w V : World} {B : Nat} (h : Below w.heap.size w V) (hB : w.heap.size ≤ B) (x y z : Value) : Below w.heap.size w (((V.setCell ⟨B, 0, none⟩ x).setCell ⟨B, 1, none⟩ y).setCell ⟨B, 2, none⟩ z) :=
  ((h.setCell (p := ⟨B, 0, none⟩) hB x).setCell (p := ⟨B, 1, none⟩) hB y).setCell (p := ⟨B, 2, none⟩) hB z
theorem below_same {w a b : World} (h : Below w.heap.size w a) (e0 : b.os = a.os) (e1 : b.tape = a.tape) (e2 : b.output = a.output) (e3 : b.heap = a.heap) : Below w.heap.size w b :=
  ⟨e0.trans h.os, e1.trans h.tape, e2.trans h.output, e3 ▸ h.size, fun k hk => by rw [e3]; exact h.block k hk⟩
end Go.Proofs.YthnpnkiomknkeaaDoor.G10
