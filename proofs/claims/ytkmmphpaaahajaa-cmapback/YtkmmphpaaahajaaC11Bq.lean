/-
  What is built of a good list, not wide, is read as it was. Pure.
-/
import Derived.Test.YtkmmphpaaahajaaC11Bp
import Derived.Test.YtkmmphpaaahajaaC11Bn
namespace Go.Proofs.Ytkmmphpaaahajaa
set_option linter.unusedVariables false

theorem tw_split (zs : List Int) (i : Nat) (h : i < zs.length) : tw zs = tw (zs.take i) ++ (t2 (zs.getD i 0) ++ tw (zs.drop (i + 1))) := by
  have e : zs = zs.take i ++ (zs.getD i 0 :: zs.drop (i + 1)) := by
    have : zs.drop i = zs.getD i 0 :: zs.drop (i + 1) := by
      rw [List.drop_eq_getElem_cons h, List.getD_eq_getElem?_getD, List.getElem?_eq_getElem h]; rfl
    rw [← this, List.take_append_drop]
  have := congrArg tw e
  unfold tw at this ⊢
  rw [List.flatMap_append, List.flatMap_cons] at this
  exact this
theorem n2_tw {s pre post : List UInt8} {zs : List Int} {k i : Nat} (hs : s = pre ++ (tw zs ++ post)) (hk : pre.length + 2 * i = k) (h : i < zs.length) : n2 s k = (zs.getD i 0 % 65536).toNat := by
  have e : s = (pre ++ tw (zs.take i)) ++ (t2 (zs.getD i 0) ++ (tw (zs.drop (i + 1)) ++ post)) := by rw [hs, tw_split zs i h]; simp [List.append_assoc]
  have hl : (pre ++ tw (zs.take i)).length = k := by rw [List.length_append, tw_len, List.length_take]; omega
  rw [e, ← hl, n2_app]
/- format 4 of a list -/
def s4 (cs : List Ch) : List UInt8 := [0, 4] ++ tw [16 + 8 * ((cs.length : Int) + 1), 0, 2 * ((cs.length : Int) + 1), 2 * (powV (cs.length + 1) : Int), (expV (cs.length + 1) : Int), 2 * ((cs.length : Int) + 1) - 2 * (powV (cs.length + 1) : Int)]
    ++ tw (zl cs ++ [65535]) ++ tw [0] ++ tw (zf cs ++ [65535]) ++ tw (zd cs ++ [1]) ++ tw (List.replicate (cs.length + 1) 0)
theorem zl_len (cs : List Ch) : (zl cs ++ [65535]).length = cs.length + 1 := by simp [zl]
theorem zf_len (cs : List Ch) : (zf cs ++ [65535]).length = cs.length + 1 := by simp [zf]
theorem zd_len (cs : List Ch) : (zd cs ++ [1]).length = cs.length + 1 := by simp [zd]
theorem s4_len (cs : List Ch) : (s4 cs).length = 16 + 8 * (cs.length + 1) := by
  unfold s4
  simp only [List.length_append, tw_len, List.length_replicate]
  rw [show (zl cs).length = cs.length by simp [zl], show (zf cs).length = cs.length by simp [zf], show (zd cs).length = cs.length by simp [zd]]
  simp
  omega
theorem s4_head (cs : List Ch) (h : cs.length ≤ 4095) : n2 (s4 cs) 2 = 16 + 8 * (cs.length + 1) ∧ n2 (s4 cs) 6 = 2 * (cs.length + 1) := by
  obtain ⟨rest, hr⟩ : ∃ rest, s4 cs = [0, 4] ++ (tw [16 + 8 * ((cs.length : Int) + 1), 0, 2 * ((cs.length : Int) + 1), 2 * (powV (cs.length + 1) : Int), (expV (cs.length + 1) : Int), 2 * ((cs.length : Int) + 1) - 2 * (powV (cs.length + 1) : Int)] ++ rest) := ⟨_, by unfold s4; simp only [List.append_assoc]; rfl⟩
  refine ⟨?_, ?_⟩
  · rw [n2_tw (k := 2) (i := 0) hr rfl (by simp)]; simp; omega
  · rw [n2_tw (k := 6) (i := 2) hr rfl (by simp)]; simp; omega
theorem s4_at (cs : List Ch) (i : Nat) (h : i < cs.length + 1) : sb (s4 cs) i = ((zl cs ++ [65535]).getD i 0 % 65536).toNat ∧ sa (s4 cs) (cs.length + 1) i = ((zf cs ++ [65535]).getD i 0 % 65536).toNat ∧ sdl (s4 cs) (cs.length + 1) i = ((zd cs ++ [1]).getD i 0 % 65536).toNat ∧ sof (s4 cs) (cs.length + 1) i = 0 := by
  obtain ⟨six, hsix, hsl⟩ : ∃ six, tw [16 + 8 * ((cs.length : Int) + 1), 0, 2 * ((cs.length : Int) + 1), 2 * (powV (cs.length + 1) : Int), (expV (cs.length + 1) : Int), 2 * ((cs.length : Int) + 1) - 2 * (powV (cs.length + 1) : Int)] = six ∧ six.length = 12 := ⟨_, rfl, by rw [tw_len]; rfl⟩
  have hs : s4 cs = [0, 4] ++ (six ++ (tw (zl cs ++ [65535]) ++ (tw [0] ++ (tw (zf cs ++ [65535]) ++ (tw (zd cs ++ [1]) ++ tw (List.replicate (cs.length + 1) 0)))))) := by unfold s4; rw [hsix]; simp only [List.append_assoc]
  have l1 := zl_len cs
  have l2 := zf_len cs
  have l3 := zd_len cs
  generalize zl cs ++ [65535] = Z1 at *
  generalize zf cs ++ [65535] = Z2 at *
  generalize zd cs ++ [1] = Z3 at *
  refine ⟨?_, ?_, ?_, ?_⟩
  · exact n2_tw (pre := [0, 4] ++ six) (zs := Z1) (i := i) (by rw [hs, List.append_assoc]) (by simp [hsl]) (by omega)
  · exact n2_tw (pre := [0, 4] ++ six ++ tw Z1 ++ tw [0]) (zs := Z2) (i := i) (by rw [hs]; simp only [List.append_assoc]; rfl) (by simp [hsl, tw_len, l1]; omega) (by omega)
  · exact n2_tw (pre := [0, 4] ++ six ++ tw Z1 ++ tw [0] ++ tw Z2) (zs := Z3) (i := i) (by rw [hs]; simp only [List.append_assoc]; rfl) (by simp [hsl, tw_len, l1, l2]; omega) (by omega)
  · have := n2_tw (s := s4 cs) (k := spl (cs.length + 1) i) (pre := [0, 4] ++ six ++ tw Z1 ++ tw [0] ++ tw Z2 ++ tw Z3) (post := []) (zs := List.replicate (cs.length + 1) 0) (i := i) (by rw [hs]; simp only [List.append_assoc, List.append_nil]) (by unfold spl; simp [hsl, tw_len, l1, l2, l3]; omega) (by simp; omega)
    unfold sof
    rw [this, List.getD_eq_getElem?_getD, List.getElem?_replicate]
    split <;> rfl
theorem z_at (cs : List Ch) (i : Nat) (h : i < cs.length) : (zl cs ++ [65535]).getD i 0 = (cs.getD i c0).l ∧ (zf cs ++ [65535]).getD i 0 = (cs.getD i c0).f ∧ (zd cs ++ [1]).getD i 0 = (cs.getD i c0).g - (cs.getD i c0).f := by
  have e : cs.getD i c0 = cs[i] := by rw [List.getD_eq_getElem?_getD, List.getElem?_eq_getElem h]; rfl
  rw [e]
  unfold zl zf zd
  refine ⟨?_, ?_, ?_⟩ <;> (rw [List.getD_eq_getElem?_getD, List.getElem?_append_left (by simpa using h)]; simp [h])
theorem z_end (cs : List Ch) : (zl cs ++ [65535]).getD cs.length 0 = 65535 ∧ (zf cs ++ [65535]).getD cs.length 0 = 65535 := by
  unfold zl zf
  refine ⟨?_, ?_⟩ <;> (rw [List.getD_eq_getElem?_getD, List.getElem?_append_right (by simp)]; simp)
/- a segment of a span is the span, code by code -/
theorem seg_grp {s : List UInt8} {m i : Nat} {x : Ch} {cur : List Ch} (ha : sa s m i = x.f.toNat) (hd : sdl s m i = ((x.g - x.f) % 65536).toNat) (ho : sof s m i = 0) (hx : fitB x 4096 = true) (hl : x.l < 65535) :
    ∀ j, j ≤ x.l.toNat - x.f.toNat + 1 → segF s m 4096 i cur j = grpF x.f.toNat x.g.toNat cur j := by
  have hf := fitB_t.1 hx
  intro j
  induction j with
  | zero => intro _; rfl
  | succ j ih =>
    intro hj
    have e1 : segF s m 4096 i cur (j + 1) = (segF s m 4096 i cur j).bind fun y => stS s m 4096 i y (sa s m i + j) := rfl
    have e2 : grpF x.f.toNat x.g.toNat cur (j + 1) = (grpF x.f.toNat x.g.toNat cur j).bind fun y => stP y ((x.f.toNat + j : Nat) : Int) ((x.g.toNat + j : Nat) : Int) := rfl
    rw [e1, e2, ih (by omega), ha]
    congr 1
    funext y
    have hp : isP ((x.f.toNat + j : Nat) : Int) = true := isP_t.2 (by omega)
    have hg : glV s m i (x.f.toNat + j) = some (x.g.toNat + j) := by
      unfold glV
      rw [if_pos ho, hd]
      congr 1
      omega
    unfold stS stP
    rw [hp, hg, if_neg (by
      rintro (h | h)
      · omega
      · cases h)]
    simp only [if_true]
    rw [if_pos (by omega)]
theorem nar_less {cs : List Ch} (h : GS cs) (hn : narB cs = true) : cs.length ≤ 4095 ∧ ∀ i, i < cs.length → (cs.getD i c0).l < 65535 := by
  unfold narB at hn
  rw [Bool.and_eq_true, decide_eq_true_iff] at hn
  refine ⟨hn.1, fun i hi => ?_⟩
  rcases List.eq_nil_or_concat cs with rfl | ⟨ini, x, rfl⟩
  · simp at hi
  rw [List.concat_eq_append] at *
  have hl : (ini ++ [x]).length = ini.length + 1 := by simp
  have hx : x.l < 65535 := by
    have := hn.2
    rw [Bool.or_eq_true, hl, show ini.length + 1 - 1 = ini.length by omega, getD_last] at this
    rcases this with h' | h'
    · simp at h'
    · simpa using h'
  rcases Nat.lt_or_ge i ini.length with h' | h'
  · rw [getD_left _ _ _ h']
    have hm : ini.getD i c0 ∈ ini := by rw [List.getD_eq_getElem?_getD, List.getElem?_eq_getElem h']; simp
    have h1 := h.up _ hm
    have h2 := fitB_t.1 h.fit
    omega
  · obtain rfl : i = ini.length := by omega
    rw [getD_last]; exact hx
theorem s4_red (cs : List Ch) (hg : gooB cs 4096 = true) (hn : narB cs = true) : foV (s4 cs) 4096 = some cs := by
  obtain ⟨h1, h2⟩ := gooB_iff.1 hg
  have hGS : GS cs := h2
  obtain ⟨hm, hless⟩ := nar_less hGS hn
  obtain ⟨e1, e2⟩ := s4_head cs hm
  have hfit : ∀ i, i < cs.length → fitB (cs.getD i c0) 4096 = true := fun i hi => by
    have := h2 i hi
    unfold okB at this
    rw [Bool.and_eq_true] at this
    exact this.1
  have hrise : ∀ i, i + 1 < cs.length → (cs.getD i c0).l < (cs.getD (i + 1) c0).f := fun i hi => by
    have := h2 (i + 1) hi
    unfold okB nxB at this
    simp only [Nat.add_sub_cancel, Bool.and_eq_true, Bool.or_eq_true, Bool.not_eq_true', Bool.or_eq_false_iff, decide_eq_false_iff_not, decide_eq_true_eq] at this
    rcases this.2 with h' | h'
    · omega
    · omega
  have hb : foB (s4 cs) = true := by
    rw [foB_t, e1, e2, s4_len]
    exact ⟨by omega, by unfold s4; simp, by omega, by omega, by omega, by omega⟩
  unfold foV
  rw [hb, e1, e2, ← s4_len, List.take_length, show 2 * (cs.length + 1) / 2 = cs.length + 1 by omega]
  simp only [if_true]
  have hat : ∀ i, i < cs.length → sb (s4 cs) i = (cs.getD i c0).l.toNat ∧ sa (s4 cs) (cs.length + 1) i = (cs.getD i c0).f.toNat ∧ sdl (s4 cs) (cs.length + 1) i = (((cs.getD i c0).g - (cs.getD i c0).f) % 65536).toNat ∧ sof (s4 cs) (cs.length + 1) i = 0 := fun i hi => by
    obtain ⟨a1, a2, a3, a4⟩ := s4_at cs i (by omega)
    obtain ⟨z1, z2, z3⟩ := z_at cs i hi
    rw [z1] at a1
    rw [z2] at a2
    rw [z3] at a3
    have hf := fitB_t.1 (hfit i hi)
    have hl := hless i hi
    exact ⟨by rw [a1]; omega, by rw [a2]; omega, a3, a4⟩
  have hend : sb (s4 cs) cs.length = 65535 ∧ sa (s4 cs) (cs.length + 1) cs.length = 65535 := by
    obtain ⟨a1, a2, _, _⟩ := s4_at cs cs.length (by omega)
    obtain ⟨z1, z2⟩ := z_end cs
    rw [z1] at a1
    rw [z2] at a2
    exact ⟨a1, a2⟩
  have hle : ∀ i, i < cs.length + 1 → okS (s4 cs) (cs.length + 1) i = true := fun i hi => by
    unfold okS
    refine decide_eq_true ?_
    have hlo : leS (s4 cs) i ≤ sa (s4 cs) (cs.length + 1) i := by
      cases i with
      | zero => exact Nat.zero_le _
      | succ j =>
        show sb (s4 cs) j + 1 ≤ _
        rw [(hat j (by omega)).1]
        have hfj := fitB_t.1 (hfit j (by omega))
        have hlj := hless j (by omega)
        rcases Nat.lt_or_ge (j + 1) cs.length with h' | h'
        · rw [(hat (j + 1) h').2.1]
          have := hrise j h'
          omega
        · rw [show j + 1 = cs.length by omega, hend.2]; omega
    refine ⟨hlo, ?_⟩
    rcases Nat.lt_or_ge i cs.length with h' | h'
    · rw [(hat i h').1, (hat i h').2.1]
      have hf := fitB_t.1 (hfit i h')
      omega
    · rw [show i = cs.length by omega, hend.1, hend.2]; omega
  rw [foW_ok hle (by show sb (s4 cs) cs.length + 1 = 65536; rw [hend.1])]
  have hacc : ∀ k, k ≤ cs.length → accS (s4 cs) (cs.length + 1) 4096 k = some (cs.take k) := by
    intro k
    induction k with
    | zero => intro _; rfl
    | succ k ih =>
      intro hk
      obtain ⟨a1, a2, a3, a4⟩ := hat k (by omega)
      have e : accS (s4 cs) (cs.length + 1) 4096 (k + 1) = (accS (s4 cs) (cs.length + 1) 4096 k).bind fun y => segF (s4 cs) (cs.length + 1) 4096 k y (sb (s4 cs) k - sa (s4 cs) (cs.length + 1) k + 1) := rfl
      rw [e, ih (by omega), Option.bind_some, a1, a2]
      have hx := hfit k (by omega)
      have hf := fitB_t.1 hx
      rw [seg_grp a2 a3 a4 hx (hless k (by omega)) _ (Nat.le_refl _)]
      have htk := take_ch cs k (by omega)
      have hsub : GS (cs.take (k + 1)) := fun i hi => by
        rw [List.length_take] at hi
        have := h2 i (by omega)
        unfold okB at this ⊢
        have g1 : ∀ q, q < k + 1 → (cs.take (k + 1)).getD q c0 = cs.getD q c0 := fun q hq => by
          rw [List.getD_eq_getElem?_getD, List.getElem?_take, if_pos hq, ← List.getD_eq_getElem?_getD]
        rw [g1 i (by omega), g1 (i - 1) (by omega)]
        exact this
      rw [htk] at hsub ⊢
      have hlt : (cs.take k).length = k := by rw [List.length_take]; omega
      have := (span_all (AI.top hsub.init hsub.up) (by omega) hx (fun i0 y ee => by rw [ee] at hsub; exact hsub.next) ((cs.getD k c0).l.toNat - (cs.getD k c0).f.toNat) (Nat.le_refl _)).1
      rw [this, show (cs.getD k c0).f + (((cs.getD k c0).l.toNat - (cs.getD k c0).f.toNat : Nat) : Int) = (cs.getD k c0).l by omega]
  have e : accS (s4 cs) (cs.length + 1) 4096 (cs.length + 1) = (accS (s4 cs) (cs.length + 1) 4096 cs.length).bind fun y => segF (s4 cs) (cs.length + 1) 4096 cs.length y (sb (s4 cs) cs.length - sa (s4 cs) (cs.length + 1) cs.length + 1) := rfl
  rw [e, hacc cs.length (Nat.le_refl _), List.take_length, Option.bind_some, hend.1, hend.2]
  show (segF (s4 cs) (cs.length + 1) 4096 cs.length cs 0).bind (fun y => stS (s4 cs) (cs.length + 1) 4096 cs.length y (sa (s4 cs) (cs.length + 1) cs.length + 0)) = _
  rw [hend.2]
  show stS _ _ _ _ cs (65535 + 0) = _
  unfold stS
  rw [if_pos (Or.inl rfl)]
theorem redV_nar {l : List UInt8} {n i : Nat} (hr : rowB l = true) (hw : wiI l = none) (hn : naI l = some i) : redV l n = foV (l.drop (rpl l i)) n := by
  unfold redV redW; rw [hr, hw, hn]; rfl
theorem nar_back (cs : List Ch) (hg : gooB cs 4096 = true) (hn : narB cs = true) : redV (naT cs) 4096 = some cs := by
  have e : naT cs = opT 1 ++ s4 cs := by unfold naT s4; simp only [List.append_assoc]
  rw [e]
  have hH : (opT 1).length = 12 := by decide +kernel
  have hbt : ∀ k, k < 12 → bt (opT 1 ++ s4 cs) k = bt (opT 1) k := fun k hk => by
    unfold bt; rw [List.getD_eq_getElem?_getD, List.getElem?_append_left (by omega), ← List.getD_eq_getElem?_getD]
  have hn2 : ∀ k, k + 1 < 12 → n2 (opT 1 ++ s4 cs) k = n2 (opT 1) k := fun k hk => by unfold n2; rw [hbt k (by omega), hbt (k + 1) (by omega)]
  have q2 : n2 (opT 1) 2 = 1 := by decide +kernel
  have hrow : rowB (opT 1 ++ s4 cs) = true := by
    rw [rowB_t, hn2 2 (by omega), q2, List.length_append, hH, s4_len]
    refine ⟨by omega, ?_, by omega⟩
    rw [List.take_append_of_le_length (by omega)]; decide +kernel
  have hwi : wiI (opT 1 ++ s4 cs) = none := by
    unfold wiI
    rw [hn2 2 (by omega), q2]
    refine fstI_none (fun j hj => ?_)
    obtain rfl : j = 0 := by omega
    show wiR (rp (opT 1 ++ s4 cs) 0) (re (opT 1 ++ s4 cs) 0) = false
    unfold rp re
    rw [hn2 4 (by omega), hn2 6 (by omega)]
    decide +kernel
  have hna : naI (opT 1 ++ s4 cs) = some 0 := by
    unfold naI
    rw [hn2 2 (by omega), q2]
    refine fstI_some (by omega) ?_ (fun j hj => by omega)
    show naR (rp (opT 1 ++ s4 cs) 0) (re (opT 1 ++ s4 cs) 0) = true
    unfold rp re
    rw [hn2 4 (by omega), hn2 6 (by omega)]
    decide +kernel
  have hpl : rpl (opT 1 ++ s4 cs) 0 = 12 := by
    unfold rpl n4
    rw [hn2 _ (by omega), hn2 _ (by omega)]
    decide +kernel
  rw [redV_nar hrow hwi hna, hpl]
  have e3 : (opT 1 ++ s4 cs).drop 12 = s4 cs := by rw [← hH]; exact List.drop_left
  rw [e3]
  exact s4_red cs hg hn
end Go.Proofs.Ytkmmphpaaahajaa
