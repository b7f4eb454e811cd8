/-
  EmitChecks, EmitWrites, EmitJoins, walked.
-/
import Derived.Test.YthhhepbflggojaaDoorE15M
import Derived.Deep.Upon
namespace Go.Proofs.YthhhepbflggojaaDoor.E15
open Go.RowKit Go.Deep
set_option linter.unusedVariables false
set_option linter.unusedSimpArgs false
set_option maxRecDepth 8000

theorem alL_refl : ∀ (ms : List Mk), alL ms ms = true
  | [] => rfl
  | m :: r => by rw [alL, al_of.2 rfl, alL_refl r]; rfl
theorem emT_app (a b : List Mk) : emT (a ++ b) = emT a ++ emT b := by unfold emT; rw [List.flatMap_append]
theorem emE_bad {ms : List Mk} (h : emE ms ≠ 0) : emL ms = [] := by unfold emL; rw [if_neg h]
theorem emL_short (ms : List Mk) : (emL ms).length ≤ 1048576 := by
  unfold emL
  split
  · rename_i h
    unfold emE at h
    split at h
    · split at h
      · assumption
      · cases h
    · cases h
  · simp
/- a row of marks put behind another -/
theorem app_ms {W : World} {B B2 : Nat} {v : Value} {a2 : Option Addr} {n2 c2 : Nat} {cs ds : List CE} (h : MRow W B v cs) (h2 : MRow W B2 (.slice a2 n2 c2) ds) (hd : ds.length = n2) (hB : B ≤ W.heap.size) (hl : cs.length ≤ 1000000) (hl2 : n2 ≤ 1000000) :
    ∃ a' c' w2, (Builtin.append_ #[22, 22] 22 #[v, .slice a2 n2 c2]).run Tryd.prog W = .ok (.slice a' (cs.length + n2) c') w2 ∧ MLst w2 a' ((cs ++ ds).map (·.m)) ∧ Below B W w2 := by
  obtain ⟨i0, hi, hz0, hz1, hz2⟩ := info_parts5 info_mk
  rcases Nat.eq_zero_or_pos n2 with h0 | h0
  · subst h0
    obtain rfl : ds = [] := List.eq_nil_of_length_eq_zero hd
    obtain ⟨va, vc, rfl, hL, hle, _⟩ := h.lst
    have hs : Src Tryd.prog i0.size 22 (.slice a2 0 c2) 0 [] W := by
      cases a2 with
      | none => exact Src.ofNil _ Tryd.underlying22 c2
      | some x => exact Src.ofSlice _ Tryd.underlying22 x 0 c2 [] (by simp) (by simp) (by simp)
    have hr := run_append_nothing (P := Tryd.prog) W 22 22 22 38 i0 Tryd.underlying22 hi va cs.length vc hle (.slice a2 0 c2) hs
    exact ⟨va, vc, W, by rw [Nat.add_zero]; exact hr, by rw [List.append_nil]; exact hL, Below.refl _ _⟩
  · obtain ⟨_, ⟨e0, _⟩ | ⟨g, cap, cur, hv, hgB, hh, _⟩⟩ := h2.1
    · injection e0 with _ e _; omega
    obtain ⟨rfl, _, _⟩ : a2 = some ⟨g, 0, none⟩ ∧ n2 = ds.length ∧ c2 = cap := by injection hv with e1 e2 e3; exact ⟨e1, e2, e3⟩
    have ho2 := h2.1
    obtain ⟨gg, cap', w2, hr, ho, hg, hat, _⟩ := run_append_lies (P := Tryd.prog) W 22 22 B 38 i0 _ 10 96 Tryd.underlying22 hi hz0 hz1 hz2 rfl (by decide) v cs.length (fl cs) h.1 ⟨g, 0, none⟩ n2 c2 (fl ds) (by rw [fl_len, hd])
      (fun j u hu => by
        rw [Go.WideShapes.add_plain, Nat.zero_add]
        have hj := (List.getElem?_eq_some_iff.1 hu).1
        rw [← hd] at ho2
        rw [World.ownsRow.cellAt ho2 j (by rw [fl_len] at hj; exact hj)]
        exact hu) (fl_one ds) (by omega) (by unfold maxLen; omega) (by omega) hB W.heap.size rfl
    have hkeep : ∀ k, k < W.heap.size → (∃ c f, W.heap[k]? = some (.cells c 3 f)) → w2.heap[k]? = W.heap[k]? := fun k hk ⟨c, f, hc⟩ => hg.block k hk (fun e => by
      obtain ⟨_, ⟨h0, _⟩ | ⟨g, cap, cur, hv, _, hh, _⟩⟩ := h.1
      · rw [h0] at e; simp [Value.ownBlock] at e
      · rw [hv] at e
        have : k = g := by simpa [Value.ownBlock] using e
        subst this
        rw [hc] at hh
        injection hh with hh
        injection hh with _ e _
        exact tmi e.symm)
    have hrow : MRow w2 B (.slice (some ⟨gg, 0, none⟩) (cs.length + n2) cap') (cs ++ ds) := by
      refine ⟨?_, fun c hc => ?_⟩
      · rw [fl_app, List.length_append, hd]
        exact ho
      · rcases List.mem_append.1 hc with hc | hc
        · exact (h.2 c hc).kept hkeep
        · exact (h2.2 c hc).kept hkeep
    obtain ⟨a', c', e, hL, _, _⟩ := hrow.lst
    injection e with e1 e2 e3
    subst e1
    exact ⟨_, _, w2, hr, hL, (Below.refl B W).grown hg hB fun k hk' => (World.ownsRow.lt h.1 k hk').1⟩
def CpR (n : Nat) (ms : List Mk) (u : World) (e : Ending) (w' : World) : Prop := ∃ ca cc, e = .returned (.slice ca n cc) ∧ MLst w' ca ms ∧ Below u.heap.size u w'
theorem copy_l (a : Option Addr) (n c : Nat) (ms : List Mk) (u : World) (hn : ms.length = n) (h1 : n ≤ 1000000) (hg : ∀ m ∈ ms, m.gs.length ≤ 1048576) (hL : MLst u a ms) :
    Calls Tryd.prog 9 #[.slice a n c] u (CpR n ms u) := by
  refine (copy_any a n c ms u hn h1 hg hL).mono ?_
  rintro e w' ⟨ca, cc, cs, rfl, hm, hrow, hb⟩
  obtain ⟨a', c', e, hl, _, _⟩ := hrow.lst
  injection e with e1 e2 e3
  subst e1
  exact ⟨_, _, rfl, by rw [← hm]; exact hl, hb⟩
theorem bds {ms : List Mk} (h : tot ms ≤ 40000) : ∀ m ∈ ms, m.gs.length ≤ 1048576 := fun m hm => by have := tot_mem ms m hm; omega
set_option maxHeartbeats 8000000 in
theorem checks_walk (a b : Option Addr) (n n' c c' : Nat) (ms ns : List Mk) (w : World) (hA : MsIn w a n ms) (hB : MsIn w b n' ns) (hG : D2.Glo w) :
    Calls Tryd.prog 3 #[.slice a n c, .slice b n' c'] w fun e w' => e = .returned (.bool true) ∧ Below w.heap.size w w' := by
  have CL := hide (large_any a n c ms w hA)
  have CM := hide (large_any b n' c' ns w hB)
  have CWk := hide (fun (u : World) (hu : Below w.heap.size w u) => wakes_any u (hG.below hu))
  have HA := hide hA
  have HB := hide hB
  have H0 := hide (Below.refl w.heap.size w)
  clear hA hB hG
  go_enter Tryd.func3, Tryd.ntmps3
  go_wp2_with fail
  refine CL.out.mono ?_
  rintro e w0 ⟨bb, rfl, hbb, hw0⟩
  replace hw0 := hw0.symm
  subst hw0
  cases bb with
  | true =>
    clear hbb
    go_wp2_with fail
    refine (CWk.out _ H0.out).mono ?_
    rintro e w1 ⟨rfl, h1⟩
    have H1 := hide h1
    clear h1
    go_wp2_with fail
    go_ret
    exact ⟨rfl, H1.out⟩
  | false =>
  obtain ⟨b1, b2⟩ := hbb rfl
  have HG1 := hide (bds b2)
  have HN1 := hide (show n ≤ 1000000 by omega)
  clear hbb b1 b2
  go_wp2_with fail
  refine CM.out.mono ?_
  rintro e w0 ⟨bb, rfl, hbb, hw0⟩
  replace hw0 := hw0.symm
  subst hw0
  cases bb with
  | true =>
    clear hbb
    go_wp2_with fail
    refine (CWk.out _ H0.out).mono ?_
    rintro e w1 ⟨rfl, h1⟩
    have H1 := hide h1
    clear h1
    go_wp2_with fail
    go_ret
    exact ⟨rfl, H1.out⟩
  | false =>
  obtain ⟨b1, b2⟩ := hbb rfl
  have HG2 := hide (bds b2)
  have HN2 := hide (show n' ≤ 1000000 by omega)
  clear hbb b1 b2
  have CA := hide (fun (u : World) (hu : Below w.heap.size w u) => copy_l a n c ms u HA.out.len HN1.out HG1.out (HA.out.lst.below hu))
  have CB := hide (fun (u : World) (hu : Below w.heap.size w u) => copy_l b n' c' ns u HB.out.len HN2.out HG2.out (HB.out.lst.below hu))
  have CR := hide (fun (u : World) (hu : Below w.heap.size w u) => rcheck_any a n c ms u HA.out.len HN1.out HG1.out (HA.out.lst.below hu))
  have CS := hide (fun (u : World) (hu : Below w.heap.size w u) => rsame_any a b n n' c c' ms ns u HA.out.len HB.out.len HN1.out HN2.out HG1.out HG2.out (HA.out.lst.below hu) (HB.out.lst.below hu))
  have CK := hide (fun (p : Option Addr) (k : Nat) (u : World) (hl : MLst u p ms) => check_any p n k ms u HA.out.len HN1.out HG1.out hl)
  have CS1 := hide (fun (p q : Option Addr) (k l : Nat) (u : World) (hl : MLst u p ms) (hl' : MLst u q ns) => same_any p q n n' k l ms ns u HA.out.len HB.out.len HN1.out HN2.out HG1.out HG2.out hl hl')
  have CS2 := hide (fun (p q : Option Addr) (k l : Nat) (u : World) (hl : MLst u p ms) (hl' : MLst u q ms) => by
    have := same_any p q n n k l ms ms u HA.out.len HA.out.len HN1.out HN1.out HG1.out HG1.out hl hl'
    rw [alL_refl] at this
    exact this)
  have e1 : (chkV ms == chkV ms) = true := by simp
  have e2 : (alL ms ns == alL ms ns) = true := by simp
  generalize chkV ms = V at *
  generalize alL ms ns = AL at *
  go_wp2_with fail
  refine (CA.out _ H0.out).mono ?_
  rintro e w1 ⟨p1, k1, rfl, hl1, h1⟩
  have H1 := hide h1
  have L1 := hide hl1
  clear h1 hl1
  go_wp2_with fail
  refine (CK.out _ _ _ L1.out).mono ?_
  rintro e w2 ⟨rfl, h2⟩
  have H2 := hide (below_t5 H1.out h2)
  clear h2 L1
  go_wp2_with fail
  refine (CR.out _ H2.out).mono ?_
  rintro e w3 ⟨rfl, h3⟩
  have H3 := hide (below_t5 H2.out h3)
  clear h3
  go_wp2_with fail
  refine (CA.out _ H3.out).mono ?_
  rintro e w4 ⟨p4, k4, rfl, hl4, h4⟩
  have H4 := hide (below_t5 H3.out h4)
  have L4 := hide hl4
  clear h4 hl4
  go_wp2_with fail
  refine (CB.out _ H4.out).mono ?_
  rintro e w5 ⟨p5, k5, rfl, hl5, h5⟩
  have H5 := hide (below_t5 H4.out h5)
  have L5 := hide hl5
  have L45 := hide (L4.out.below h5)
  clear h5 hl5 L4
  go_wp2_with fail
  refine (CS1.out _ _ _ _ _ L45.out L5.out).mono ?_
  rintro e w6 ⟨rfl, h6⟩
  have H6 := hide (below_t5 H5.out h6)
  clear h6 L45 L5
  go_wp2_with fail
  refine (CS.out _ H6.out).mono ?_
  rintro e w7 ⟨rfl, h7⟩
  have H7 := hide (below_t5 H6.out h7)
  clear h7
  go_wp2_with fail
  refine (CA.out _ H7.out).mono ?_
  rintro e w8 ⟨p8, k8, rfl, hl8, h8⟩
  have H8 := hide (below_t5 H7.out h8)
  have L8 := hide hl8
  clear h8 hl8
  go_wp2_with fail
  refine (CA.out _ H8.out).mono ?_
  rintro e w9 ⟨p9, k9, rfl, hl9, h9⟩
  have H9 := hide (below_t5 H8.out h9)
  have L9 := hide hl9
  have L89 := hide (L8.out.below h9)
  clear h9 hl9 L8
  go_wp2_with fail
  refine (CS2.out _ _ _ _ _ L89.out L9.out).mono ?_
  rintro e wa ⟨rfl, ha⟩
  have Ha := hide (below_t5 H9.out ha)
  clear ha
  go_wp2_with fail
  refine (CWk.out _ Ha.out).mono ?_
  rintro e wb ⟨rfl, hb⟩
  have Hb := hide (below_t5 Ha.out hb)
  clear hb
  go_wp2_with fail
  go_ret
  exact ⟨rfl, Hb.out⟩
set_option maxHeartbeats 8000000 in
theorem writes_walk (a : Option Addr) (n c : Nat) (ms : List Mk) (w : World) (hA : MsIn w a n ms) (hG : D2.Glo w) :
    Calls Tryd.prog 4 #[.slice a n c] w fun e w' => e = .returned (.bool true) ∧ Below w.heap.size w w' := by
  have CL := hide (large_any a n c ms w hA)
  have CWk := hide (fun (u : World) (hu : Below w.heap.size w u) => wakes_any u (hG.below hu))
  have HA := hide hA
  have HG := hide hG
  have H0 := hide (Below.refl w.heap.size w)
  clear hA hG
  go_enter Tryd.func4, Tryd.ntmps4
  go_wp2_with fail
  refine CL.out.mono ?_
  rintro e w0 ⟨bb, rfl, hbb, hw0⟩
  replace hw0 := hw0.symm
  subst hw0
  cases bb with
  | true =>
    clear hbb
    go_wp2_with fail
    refine (CWk.out _ H0.out).mono ?_
    rintro e w1 ⟨rfl, h1⟩
    have H1 := hide h1
    clear h1
    go_wp2_with fail
    go_ret
    exact ⟨rfl, H1.out⟩
  | false =>
  obtain ⟨b1, b2⟩ := hbb rfl
  have HG1 := hide (bds b2)
  have HN1 := hide (show n ≤ 1000000 by omega)
  clear hbb b1 b2
  have CA := hide (fun (u : World) (hu : Below w.heap.size w u) => copy_l a n c ms u HA.out.len HN1.out HG1.out (HA.out.lst.below hu))
  have CE := hide (fun (p : Option Addr) (k : Nat) (u : World) (hl : MLst u p ms) (hu : Below w.heap.size w u) => emit_any p n k ms u HA.out.len HN1.out HG1.out hl (HG.out.below hu))
  have CR := hide (fun (u : World) (hu : Below w.heap.size w u) => remit_any a n c ms u HA.out.len HN1.out HG1.out (HA.out.lst.below hu) (HG.out.below hu))
  have CS := hide (fun (p : Option Addr) (k : Nat) (u : World) (hl : MLst u p ms) (hu : Below w.heap.size w u) => by
    have := rsame_any p a n n k c ms ms u HA.out.len HA.out.len HN1.out HN1.out HG1.out HG1.out hl (HA.out.lst.below hu)
    rw [alL_refl] at this
    exact this)
  unfold EmR at CE CR
  have e1 : (emE ms == emE ms) = true := by simp
  generalize emE ms = V at *
  obtain ⟨TX, hTX⟩ : ∃ TX : ByteArray, ⟨(emL ms).toArray⟩ = TX := ⟨_, rfl⟩
  rw [hTX] at CE CR
  have e2 : (TX.toList == TX.toList) = true := by simp
  clear hTX
  go_wp2_with fail
  refine (CA.out _ H0.out).mono ?_
  rintro e w1 ⟨p1, k1, rfl, hl1, h1⟩
  have H1 := hide h1
  have L1 := hide hl1
  clear h1 hl1
  go_wp2_with fail
  refine (CE.out _ _ _ L1.out H1.out).mono ?_
  rintro e w2 ⟨rfl, h2⟩
  have H2 := hide (below_t5 H1.out h2)
  have L2 := hide (L1.out.below h2)
  clear h2 L1
  go_wp2_with fail
  refine (CR.out _ H2.out).mono ?_
  rintro e w3 ⟨rfl, h3⟩
  have H3 := hide (below_t5 H2.out h3)
  have L3 := hide (L2.out.below h3)
  clear h3 L2
  go_wp2_with fail
  refine (CS.out _ _ _ L3.out H3.out).mono ?_
  rintro e w4 ⟨rfl, h4⟩
  have H4 := hide (below_t5 H3.out h4)
  clear h4
  go_wp2_with fail
  refine (CWk.out _ H4.out).mono ?_
  rintro e w5 ⟨rfl, h5⟩
  have H5 := hide (below_t5 H4.out h5)
  clear h5
  go_wp2_with fail
  go_ret
  exact ⟨rfl, H5.out⟩
/- what one call of Emit told: no error, or no text -/
theorem em_two (ms : List Mk) : (emE ms = 0 ∧ emL ms = emT ms) ∨ ((emE ms != 0) = true ∧ (emE ms == 0) = false ∧ emL ms = []) := by
  by_cases h : emE ms = 0
  · exact Or.inl ⟨h, by unfold emL; rw [if_pos h]⟩
  · exact Or.inr ⟨by simpa using h, by simpa using h, emE_bad h⟩
set_option maxHeartbeats 16000000 in
theorem joins_walk (a b : Option Addr) (n n' c c' : Nat) (ms ns : List Mk) (w : World) (hA : MsIn w a n ms) (hB : MsIn w b n' ns) (hG : D2.Glo w) :
    Calls Tryd.prog 5 #[.slice a n c, .slice b n' c'] w fun e w' => e = .returned (.bool true) ∧ Below w.heap.size w w' := by
  have CL := hide (large_any a n c ms w hA)
  have CM := hide (large_any b n' c' ns w hB)
  have CWk := hide (fun (u : World) (hu : Below w.heap.size w u) => wakes_any u (hG.below hu))
  have HA := hide hA
  have HB := hide hB
  have HG := hide hG
  have H0 := hide (Below.refl w.heap.size w)
  clear hA hB hG
  go_enter Tryd.func5, Tryd.ntmps5
  go_wp2_with fail
  refine CL.out.mono ?_
  rintro e w0 ⟨bb, rfl, hbb, hw0⟩
  replace hw0 := hw0.symm
  subst hw0
  cases bb with
  | true =>
    clear hbb
    go_wp2_with fail
    refine (CWk.out _ H0.out).mono ?_
    rintro e w1 ⟨rfl, h1⟩
    have H1 := hide h1
    clear h1
    go_wp2_with fail
    go_ret
    exact ⟨rfl, H1.out⟩
  | false =>
  obtain ⟨b1, b2⟩ := hbb rfl
  have HG1 := hide (bds b2)
  have HN1 := hide (show n ≤ 500000 by omega)
  clear hbb b1 b2
  go_wp2_with fail
  refine CM.out.mono ?_
  rintro e w0 ⟨bb, rfl, hbb, hw0⟩
  replace hw0 := hw0.symm
  subst hw0
  cases bb with
  | true =>
    clear hbb
    go_wp2_with fail
    refine (CWk.out _ H0.out).mono ?_
    rintro e w1 ⟨rfl, h1⟩
    have H1 := hide h1
    clear h1
    go_wp2_with fail
    go_ret
    exact ⟨rfl, H1.out⟩
  | false =>
  obtain ⟨b1, b2⟩ := hbb rfl
  have HG2 := hide (bds b2)
  have HN2 := hide (show n' ≤ 500000 by omega)
  clear hbb b1 b2
  have CA := hide (fun (u : World) (hu : Below w.heap.size w u) => copy_l a n c ms u HA.out.len (by have := HN1.out; omega) HG1.out (HA.out.lst.below hu))
  have CB := hide (fun (u : World) (hu : Below w.heap.size w u) => copy_l b n' c' ns u HB.out.len (by have := HN2.out; omega) HG2.out (HB.out.lst.below hu))
  have CA2 := hide (fun (u : World) (hu : Below w.heap.size w u) => copy_any a n c ms u HA.out.len (by have := HN1.out; omega) HG1.out (HA.out.lst.below hu))
  have CB2 := hide (fun (u : World) (hu : Below w.heap.size w u) => copy_any b n' c' ns u HB.out.len (by have := HN2.out; omega) HG2.out (HB.out.lst.below hu))
  have CE1 := hide (fun (p : Option Addr) (k : Nat) (u : World) (hl : MLst u p ms) (hu : Below w.heap.size w u) => emit_any p n k ms u HA.out.len (by have := HN1.out; omega) HG1.out hl (HG.out.below hu))
  have CE2 := hide (fun (p : Option Addr) (k : Nat) (u : World) (hl : MLst u p ns) (hu : Below w.heap.size w u) => emit_any p n' k ns u HB.out.len (by have := HN2.out; omega) HG2.out hl (HG.out.below hu))
  have CE3 := hide (fun (p : Option Addr) (k : Nat) (u : World) (hl : MLst u p (ms ++ ns)) (hu : Below w.heap.size w u) => emit_any p (n + n') k (ms ++ ns) u (by rw [List.length_append, HA.out.len, HB.out.len]) (by have := HN1.out; have := HN2.out; omega) (fun m hm => by
    rcases List.mem_append.1 hm with h | h
    · exact HG1.out m h
    · exact HG2.out m h) hl (HG.out.below hu))
  unfold EmR at CE1 CE2 CE3
  have d1 := em_two ms
  have d2 := em_two ns
  have d3 := em_two (ms ++ ns)
  rw [emT_app] at d3
  have s1 := emL_short ms
  have s2 := emL_short ns
  generalize emE ms = V1 at *
  generalize emE ns = V2 at *
  generalize emE (ms ++ ns) = V3 at *
  generalize emL (ms ++ ns) = T3 at *
  generalize emL ms = T1 at *
  generalize emL ns = T2 at *
  have D1 := hide d1
  have D2' := hide d2
  have D3 := hide d3
  have S1 := hide s1
  have S2 := hide s2
  clear d1 d2 d3 s1 s2
  go_wp2_with fail
  refine (CA.out _ H0.out).mono ?_
  rintro e w1 ⟨p1, k1, rfl, hl1, h1⟩
  have H1 := hide h1
  have L1 := hide hl1
  clear h1 hl1
  go_wp2_with fail
  refine (CE1.out _ _ _ L1.out H1.out).mono ?_
  rintro e w2 ⟨rfl, h2⟩
  have H2 := hide (below_t5 H1.out h2)
  clear h2 L1
  go_wp2_with fail
  refine (CB.out _ H2.out).mono ?_
  rintro e w3 ⟨p3, k3, rfl, hl3, h3⟩
  have H3 := hide (below_t5 H2.out h3)
  have L3 := hide hl3
  clear h3 hl3
  go_wp2_with fail
  refine (CE2.out _ _ _ L3.out H3.out).mono ?_
  rintro e w4 ⟨rfl, h4⟩
  have H4 := hide (below_t5 H3.out h4)
  clear h4 L3
  go_wp2_with fail
  refine (CA2.out _ H4.out).mono ?_
  rintro e w5 ⟨p5, k5, cs, rfl, hm5, hr5, h5⟩
  have H5 := hide (below_t5 H4.out h5)
  have HW4 := hide h5.size
  have M5 := hide hm5
  have R5 := hide hr5
  clear h5 hm5 hr5
  go_wp2_with fail
  refine (CB2.out _ H5.out).mono ?_
  rintro e w6 ⟨p6, k6, ds, rfl, hm6, hr6, h6⟩
  have hcl : cs.length = n := by rw [← HA.out.len, ← M5.out, List.length_map]
  have hdl : ds.length = n' := by rw [← HB.out.len, ← hm6, List.length_map]
  obtain ⟨a7, c7, w7, hr7, hl7, hb7⟩ := app_ms (R5.out.below h6) hr6 hdl (Nat.le_trans HW4.out h6.size) (by have := HN1.out; omega) (by have := HN2.out; omega)
  rw [hcl] at hr7
  rw [List.map_append, M5.out, hm6] at hl7
  have HR7 := hide hr7
  have L7 := hide hl7
  have H7 := hide ((below_t5 H5.out h6).trans (hb7.mono H4.out.size))
  clear hr7 hl7 hb7 h6 hr6 hm6 hcl hdl R5 M5
  have eN : ∃ N, n + n' = N := ⟨_, rfl⟩
  obtain ⟨N, hN⟩ := eN
  rw [hN] at CE3 HR7
  clear hN
  go_wp2_with (at_builtin; refine Lib.wpList_append_run _ rfl _ _ _ _ rfl _ _ rfl rfl _ _ HR7.out ?_)
  refine (CE3.out _ _ _ L7.out H7.out).mono ?_
  rintro e w8 ⟨rfl, h8⟩
  have H8 := hide (below_t5 H7.out h8)
  clear h8
  obtain ⟨X1, hX1⟩ : ∃ X : ByteArray, ⟨T1.toArray⟩ = X := ⟨_, rfl⟩
  obtain ⟨X2, hX2⟩ : ∃ X : ByteArray, ⟨T2.toArray⟩ = X := ⟨_, rfl⟩
  have x1 : X1.data.toList = T1 := by rw [← hX1]
  have x2 : X2.data.toList = T2 := by rw [← hX2]
  rcases D1.out with ⟨rfl, t1⟩ | ⟨g1, g2, t1⟩ <;> rcases D2'.out with ⟨rfl, t2⟩ | ⟨g3, g4, t2⟩ <;> rcases D3.out with ⟨rfl, t3⟩ | ⟨g5, g6, t3⟩
  · obtain ⟨P, hc, hd, _⟩ := cat15 X1 X2 X1.size X2.size rfl rfl (by rw [Lib.size_eq, Lib.size_eq, x1, x2]; have := S1.out; have := S2.out; omega)
    have hT3 : (⟨T3.toArray⟩ : ByteArray) = P := by rw [t3, ← t1, ← t2, ← x1, ← x2, ← hd]
    have e3 : (P.toList == P.toList) = true := by simp
    rw [hX1, hX2, hT3]
    clear hd hT3 t1 t2 t3 x1 x2 hX1 hX2 D1 D2' D3
    go_wp2_with fail
    refine (CWk.out _ H8.out).mono ?_
    rintro e w9 ⟨rfl, h9⟩
    have H9 := hide (below_t5 H8.out h9)
    clear h9
    go_wp2_with fail
    go_ret
    exact ⟨rfl, H9.out⟩
  all_goals (
    clear hX1 hX2 x1 x2
    have z0 : ((⟨#[]⟩ : ByteArray).toList == []) = true := by rw [ByteArray.toList_eq]; rfl
    obtain ⟨Y1, y1⟩ : ∃ X : ByteArray, ⟨T1.toArray⟩ = X := ⟨_, rfl⟩
    obtain ⟨Y2, y2⟩ : ∃ X : ByteArray, ⟨T2.toArray⟩ = X := ⟨_, rfl⟩
    obtain ⟨Y3, y3⟩ : ∃ X : ByteArray, ⟨T3.toArray⟩ = X := ⟨_, rfl⟩
    simp only [y1, y2, y3]
    have q1 : T1 = [] → (Y1.toList == []) = true := fun h => by rw [← y1, h]; exact z0
    have q2 : T2 = [] → (Y2.toList == []) = true := fun h => by rw [← y2, h]; exact z0
    have q3 : T3 = [] → (Y3.toList == []) = true := fun h => by rw [← y3, h]; exact z0
    clear y1 y2 y3
    (try replace q1 := q1 t1)
    (try replace q2 := q2 t2)
    (try replace q3 := q3 t3)
    clear t1 t2 t3 D1 D2' D3 z0
    have K1 := hide q1
    have K2 := hide q2
    have K3 := hide q3
    go_wp2_with fail
    refine (CWk.out _ H8.out).mono ?_
    rintro e w9 ⟨rfl, h9⟩
    have H9 := hide (below_t5 H8.out h9)
    clear h9
    go_wp2_with fail
    go_ret
    exact ⟨rfl, H9.out⟩)
end Go.Proofs.YthhhepbflggojaaDoor.E15
