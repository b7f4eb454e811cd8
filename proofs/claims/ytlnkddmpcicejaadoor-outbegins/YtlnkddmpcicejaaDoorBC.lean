/-
  Joined: O5Goo, O5Hex.
-/
import Derived.Test.YtlnkddmpcicejaaDoorBB
import Derived.Deep.RegionHeld3
import Derived.Deep.QuietTactic
import Derived.BigQuiet
import Derived.Deep.RegionLaw
import Derived.Test.YtlnkddmpcicejaaDoorBA
/-
  What the landed good and Good answer.
-/
namespace Go.Proofs.YtlnkddmpcicejaaDoor
open Go.RowKit Go.Deep

theorem goodF_ge : ∀ (T : BT Pay) (nest n : Int), 0 ≤ n → 0 ≤ goodF T nest n → n + flen T ≤ goodF T nest n
  | .nil, _, n, _, h => by simp only [goodF, flen] at h ⊢; omega
  | .node _ _ p T N, nest, n, h0, h => by
    rw [goodF_node] at h ⊢
    by_cases hv : goodV p T nest n < 0
    · rw [if_pos hv] at h; omega
    rw [if_neg hv] at h ⊢
    have h1 : n + 1 ≤ goodV p T nest n := by
      unfold goodV gV at hv ⊢
      split at hv
      · omega
      · rename_i hc
        rw [if_neg hc]
        split at hv
        · rename_i hcc
          rw [if_pos hcc]
          split at hv
          · omega
          · rename_i hd
            rw [if_neg hd]
            have := goodF_ge T (nest + 1) (n + 1) (by omega) (by omega)
            omega
        · rename_i hcc
          rw [if_neg hcc]
          have := goodF_ge T nest (n + 1) (by omega) (by omega)
          omega
    have := goodF_ge N nest _ (by omega) h
    simp only [flen]
    omega
theorem flat_noItems {p : Pay} {n : Nat} (h : flatV p n = true) (hc : cont p = false) : n = 0 := by
  unfold flatV at h
  unfold cont at hc
  simp only [Bool.or_eq_false_iff] at hc
  simp only [Bool.and_eq_true, Bool.not_eq_true', Bool.or_eq_false_iff] at h
  have := h.1.2
  simp only [bne, hc.1, hc.2, Bool.not_false, Bool.and_true] at this
  simpa using this
/- the landed way: as many as are left -/
theorem good_land {p : Pay} {T : BT Pay} {nest n : Int} (h0 : 0 ≤ n) (h1 : n ≤ 65536) :
    goodV p T nest (65536 - n) = if n - 1 < flen T ∨ flatV p (flen T) = false ∨ cont p = true ∧ 32 < nest + 1 then goodV p T nest (65536 - n) else goodF T (nest + 1) (65536 - (n - 1)) := by
  split
  · rfl
  · rename_i hc
    have hf : flatV p (flen T) = true := by
      cases h : flatV p (flen T) with
      | true => rfl
      | false => exact absurd (Or.inr (Or.inl h)) hc
    unfold goodV gV
    rw [if_neg (by rintro (h | h); exact hc (Or.inl (by omega)); rw [hf] at h; cases h)]
    by_cases hcc : cont p = true
    · rw [if_pos hcc, if_neg (fun h => hc (Or.inr (Or.inr ⟨hcc, h⟩)))]
      congr 1
      omega
    · rw [if_neg hcc]
      have := flen_zero (flat_noItems hf (by simpa using hcc))
      subst this
      simp only [goodF]
      omega
theorem good_bad {p : Pay} {T : BT Pay} {nest n : Int} (h0 : 0 ≤ n) (h1 : n ≤ 65536) (h : n - 1 < flen T ∨ flatV p (flen T) = false ∨ cont p = true ∧ 32 < nest + 1) : decide (0 ≤ goodV p T nest (65536 - n)) = false := by
  rw [decide_eq_false_iff_not]
  intro hg
  unfold goodV gV at hg
  by_cases hc : 65536 < 65536 - n + 1 ∨ flatV p (flen T) = false
  · rw [if_pos hc] at hg; omega
  rw [if_neg hc] at hg
  by_cases hcc : cont p = true
  · rw [if_pos hcc] at hg
    by_cases hd : 32 < nest + 1
    · rw [if_pos hd] at hg; omega
    · rw [if_neg hd] at hg
      have h2 := goodF_ge T _ _ (by omega) hg
      have h3 := goodF_le T (nest + 1) (65536 - n + 1) (by omega) (by omega)
      rcases h with h | h | h
      · omega
      · exact hc (Or.inr h)
      · exact hd h.2
  · rw [if_neg hcc] at hg
    have h2 := goodF_ge T _ _ (by omega) hg
    have h3 := goodF_le T nest (65536 - n + 1) (by omega) (by omega)
    rcases h with h | h | h
    · omega
    · exact hc (Or.inr h)
    · exact hcc h.1
/- an object that lies outside the block L -/
noncomputable abbrev out_ (L : Nat) (w : World) : World := onlyA (fun k => k ≠ L) w
theorem But.out_ {L : Nat} {w w' : World} (h : But L w w') : Sub (out_ L w) (out_ L w') := onlyA_sub h.size fun k hk hl => ⟨hk, h.block k hl hk⟩
theorem Blk.but {L b : Nat} {w w' : World} {cs : Array Value} {t : TypeId} (h : Blk w b cs t) (hb : But L w w') (hne : b ≠ L) : Blk w' b cs t := by
  have hl := h.lt
  unfold Blk at *; rw [hb.block b hl hne]; exact h
section
variable {P : Program} {md : Region.Mode} {ops : Array Oper} {Q : Exit → Act → World → Prop} {S : World → Prop}
theorem takeW {i d : Nat} {oi : Oper} {v : Value} {fuel : Nat} {listed : Array Bool} {a : Act} {w : World} (hi : ops[i]? = some oi) (hd : oi.dst = some d)
    (hs : Region.noSelect ops = true) (hf : Region.free md ops listed i = true) (hr : (Region.ready md ops listed).contains i = true)
    (hQ : ∀ c a w, Q (.panic c) (a.put (some d) v) w → Q (.panic c) a w) (hw : Region.wanted oi (yielded ops a.tmps) = true) (hy : ∀ w, S w → (execOp a.eval oi).run P w = .ok (.value v) w) (hS : S w)
    (h : wpAnyH P md ops Q S fuel (listed.setIfInBounds i true) (a.put (some d) v) w) : wpAnyH P md ops Q S (fuel + 1) listed a w :=
  wpAnyH_take hi hs hf hr (by rw [hd]; exact hQ) (Or.inl ⟨hw, hy⟩) hS (by rw [hd]; exact h)
theorem takeN {i d : Nat} {oi : Oper} {fuel : Nat} {listed : Array Bool} {a : Act} {w : World} (hi : ops[i]? = some oi) (hd : oi.dst = some d)
    (hs : Region.noSelect ops = true) (hf : Region.free md ops listed i = true) (hr : (Region.ready md ops listed).contains i = true)
    (hQ : ∀ c a w, Q (.panic c) (a.put (some d) undef) w → Q (.panic c) a w) (hw : Region.wanted oi (yielded ops a.tmps) = false) (hS : S w)
    (h : wpAnyH P md ops Q S fuel (listed.setIfInBounds i true) (a.put (some d) undef) w) : wpAnyH P md ops Q S (fuel + 1) listed a w :=
  wpAnyH_take hi hs hf hr (by rw [hd]; exact hQ) (Or.inr ⟨hw, rfl⟩) hS (by rw [hd]; exact h)
end
theorem skip_if {c : Bool} {A B : Prop} (h : c = false) (k : B) : if c = true then A else B := by rw [h]; exact k
def GoodR (L : Nat) (w : World) (g : Int) (e : Ending) (w' : World) : Prop :=
  e = .returned (.bool (decide (0 ≤ g))) ∧ But L w w' ∧ ∃ n' : Int, Blk w' L #[.int .i64 n'] 3 ∧ (0 ≤ g → n' = 65536 - g)
set_option maxRecDepth 8000 in
set_option maxHeartbeats 4000000 in
theorem ogood_step (M : Nat)
    (ih : ∀ (p : Pay) (T : BT Pay) (ka : Option Addr) (kc : Nat) (ia : Option Addr) (ic : Nat) (deep n : Int) (L : Nat) (w : World), fsize T < M → OIn (out_ L w) p T ka kc ia ic → 1 ≤ deep → deep ≤ 33 → 0 ≤ n → n ≤ 65536 → Blk w L #[.int .i64 n] 3 →
      Calls Tryd.prog 37 #[ov p ka kc ia (flen T) ic, .int .i64 deep, .pointer (some ⟨L, 0, none⟩)] w fun e w' => GoodR L w (goodV p T (deep - 1) (65536 - n)) e w')
    (p : Pay) (T : BT Pay) (ka : Option Addr) (kc : Nat) (ia : Option Addr) (ic : Nat) (deep n : Int) (L : Nat) (w : World) (hM : fsize T ≤ M) (hin : OIn (out_ L w) p T ka kc ia ic) (hd0 : 1 ≤ deep) (hd1 : deep ≤ 33) (h0 : 0 ≤ n) (h1 : n ≤ 65536) (hL : Blk w L #[.int .i64 n] 3) :
      Calls Tryd.prog 37 #[ov p ka kc ia (flen T) ic, .int .i64 deep, .pointer (some ⟨L, 0, none⟩)] w fun e w' => GoodR L w (goodV p T (deep - 1) (65536 - n)) e w' := by
  have IH := hide ih
  have HI := hide hin
  have HM := hide hM
  have hl1 : (flen T : Int) ≤ 9223372036854775807 := by have h := hin.2.2.1; have h' := hin.2.2.2.1; omega
  have hl0 : (0 : Int) ≤ (flen T : Int) := by omega
  have hlt : L < w.heap.size := hL.lt
  have l0 : w.cell? ⟨L, 0, none⟩ = some (.int .i64 n) := hL.cell 0
  have z0 := hL.frozen 0
  have HL : Hid (Blk ((w.setCell ⟨L, 0, none⟩ (.int .i64 (n - 1))).alloc (.cells (obox p ka kc ia (flen T) ic) 39)) L #[.int .i64 (n - 1)] 3) := hide ((hL.set 0 (.int .i64 (n - 1))).below ((Below.refl _ _).alloc (Nat.le_refl _) _))
  have hsz : (w.setCell ⟨L, 0, none⟩ (.int .i64 (n - 1))).heap.size = w.heap.size := by simp [World.setCell]
  have HK : Hid (Blk ((w.setCell ⟨L, 0, none⟩ (.int .i64 (n - 1))).alloc (.cells (obox p ka kc ia (flen T) ic) 39)) w.heap.size (obox p ka kc ia (flen T) ic) 39) := hide (by
    have := Blk.new (w.setCell ⟨L, 0, none⟩ (.int .i64 (n - 1))) (obox p ka kc ia (flen T) ic) 39
    rwa [hsz] at this)
  have HU : Hid (But L w ((w.setCell ⟨L, 0, none⟩ (.int .i64 (n - 1))).alloc (.cells (obox p ka kc ia (flen T) ic) 39))) := hide ((But.setCell L w 0 _).trans (But.of_below ((Below.refl _ _).alloc (Nat.le_refl _) _)))
  clear ih hin hM hL hsz
  go_enter Tryd.func37, Tryd.ntmps37
  go_wp2_with fail
  have hz1 : w.heap.size < ((w.setCell ⟨L, 0, none⟩ (.int .i64 (n - 1))).alloc (.cells (obox p ka kc ia (flen T) ic) 39)).heap.size := by simp [World.setCell]
  generalize (w.setCell ⟨L, 0, none⟩ (.int .i64 (n - 1))).alloc (.cells (obox p ka kc ia (flen T) ic) 39) = w1 at HL HK HU hz1 ⊢
  clear l0 z0
  have CF : Hid (∀ x, Below w1.heap.size w1 x → Calls Tryd.prog 46 #[ov p ka kc ia (flen T) ic] x fun e w' => e = .returned (.bool (flatV p (flen T))) ∧ Below x.heap.size x w') := hide (fun x hx => fits_any p T ka kc ia ic x (HI.out.sub (HU.out.out_.trans ((onlyA_sub_all _ _).trans (Sub.of_below hx)))))
  have CN := hide (fun x => nests_any p ka kc ia (flen T) ic x)
  have KS : Hid (∀ x, Below w1.heap.size w1 x → x.cell? ⟨L, 0, none⟩ = some (.int .i64 (n - 1)) ∧ x.cell? ⟨w.heap.size, 0, none⟩ = some (.int .i64 p.kind) ∧ x.cell? ⟨w.heap.size, 1, none⟩ = some (.bool p.flag) ∧ x.cell? ⟨w.heap.size, 2, none⟩ = some (.int .i64 p.num) ∧ x.cell? ⟨w.heap.size, 3, none⟩ = some (.string p.text) ∧ x.cell? ⟨w.heap.size, 4, none⟩ = some (.slice ka p.keys.length kc) ∧ x.cell? ⟨w.heap.size, 5, none⟩ = some (.slice ia (flen T) ic)) := hide (fun x hx => ⟨(HL.out.below hx).cell 0, (HK.out.below hx).cell 0, (HK.out.below hx).cell 1, (HK.out.below hx).cell 2, (HK.out.below hx).cell 3, (HK.out.below hx).cell 4, (HK.out.below hx).cell 5⟩)
  have HX : Hid (Below w1.heap.size w1 w1) := hide (Below.refl _ _)
  rename_i k0
  have HKK := hide k0
  clear k0
  have BAD : Hid ((n - 1 < flen T ∨ flatV p (flen T) = false ∨ cont p = true ∧ 32 < deep - 1 + 1) → decide (0 ≤ goodV p T (deep - 1) (65536 - n)) = false) := hide (good_bad h0 h1)
  have RB : Hid (∀ x, Below w1.heap.size w1 x → decide (0 ≤ goodV p T (deep - 1) (65536 - n)) = false → GoodR L w (goodV p T (deep - 1) (65536 - n)) (.returned (.bool false)) x) := hide (fun x hx hg => ⟨by rw [hg], HU.out.trans (But.of_below hx), n - 1, HL.out.below hx, fun h => by rw [decide_eq_false_iff_not] at hg; exact absurd h hg⟩)
  by_cases hA : n - 1 < (flen T : Int)
  · have hA' : decide (n - 1 < (flen T : Int)) = true := by simpa using hA
    have HG := hide (BAD.out (Or.inl hA))
    obtain ⟨v0, v1, v2, v3, v4, v5, v6⟩ := KS.out _ HX.out
    go_quiet (fail)
    all_goals
      refine HKK.out _ _ ?_
      go_wp2_with fail
      go_ret
      exact RB.out _ (below_d5 HX.out (Below.refl _ _) rfl rfl rfl rfl) HG.out
  have hA' : decide (n - 1 < (flen T : Int)) = false := by simpa using hA
  cases hF : flatV p (flen T)
  · rw [hF] at CF
    have HG := hide (BAD.out (Or.inr (Or.inl hF)))
    refine wp_region_held_drew (S := (fun x => x.cell? ⟨L, 0, none⟩ = some (.int .i64 (n - 1)) ∧ x.cell? ⟨w.heap.size, 0, none⟩ = some (.int .i64 p.kind) ∧ x.cell? ⟨w.heap.size, 1, none⟩ = some (.bool p.flag) ∧ x.cell? ⟨w.heap.size, 2, none⟩ = some (.int .i64 p.num) ∧ x.cell? ⟨w.heap.size, 3, none⟩ = some (.string p.text) ∧ x.cell? ⟨w.heap.size, 4, none⟩ = some (.slice ka p.keys.length kc) ∧ x.cell? ⟨w.heap.size, 5, none⟩ = some (.slice ia (flen T) ic))) (by kernel_rfl) (KS.out _ (below_d5 HX.out (Below.refl _ _) rfl rfl rfl rfl)) (fun hHeld => ?_)
    refine takeW (i := 0) (d := 14) (v := .pointer (some ⟨L, 0, none⟩)) rfl rfl (by kernel_rfl) (by kernel_rfl) (by kernel_rfl) (fun _ _ _ h => h) (by rfl) ?_ (by assumption) ?_
    · intro x hSx
      obtain ⟨q0, q1, q2, q3, q4, q5, q6⟩ := hSx
      go_simp
    simp only [Act.put, List.setIfInBounds_toArray, List.set_cons_zero, List.set_cons_succ]
    refine takeW (i := 1) (d := 15) (v := .pointer (some ⟨L, 0, none⟩)) rfl rfl (by kernel_rfl) (by kernel_rfl) (by kernel_rfl) (fun _ _ _ h => h) (by rfl) ?_ (by assumption) ?_
    · intro x hSx
      obtain ⟨q0, q1, q2, q3, q4, q5, q6⟩ := hSx
      go_simp
    simp only [Act.put, List.setIfInBounds_toArray, List.set_cons_zero, List.set_cons_succ]
    refine takeW (i := 2) (d := 16) (v := .int .i64 (n - 1)) rfl rfl (by kernel_rfl) (by kernel_rfl) (by kernel_rfl) (fun _ _ _ h => h) (by rfl) ?_ (by assumption) ?_
    · intro x hSx
      obtain ⟨q0, q1, q2, q3, q4, q5, q6⟩ := hSx
      go_simp
    simp only [Act.put, List.setIfInBounds_toArray, List.set_cons_zero, List.set_cons_succ]
    refine takeW (i := 3) (d := 17) (v := .pointer (some ⟨w.heap.size, 5, none⟩)) rfl rfl (by kernel_rfl) (by kernel_rfl) (by kernel_rfl) (fun _ _ _ h => h) (by rfl) ?_ (by assumption) ?_
    · intro x hSx
      obtain ⟨q0, q1, q2, q3, q4, q5, q6⟩ := hSx
      go_simp
    simp only [Act.put, List.setIfInBounds_toArray, List.set_cons_zero, List.set_cons_succ]
    refine takeW (i := 4) (d := 18) (v := .slice ia (flen T) ic) rfl rfl (by kernel_rfl) (by kernel_rfl) (by kernel_rfl) (fun _ _ _ h => h) (by rfl) ?_ (by assumption) ?_
    · intro x hSx
      obtain ⟨q0, q1, q2, q3, q4, q5, q6⟩ := hSx
      go_simp
    simp only [Act.put, List.setIfInBounds_toArray, List.set_cons_zero, List.set_cons_succ]
    refine takeW (i := 5) (d := 19) (v := .int .i64 (flen T)) rfl rfl (by kernel_rfl) (by kernel_rfl) (by kernel_rfl) (fun _ _ _ h => h) (by rfl) ?_ (by assumption) ?_
    · intro x hSx
      obtain ⟨q0, q1, q2, q3, q4, q5, q6⟩ := hSx
      go_simp
    simp only [Act.put, List.setIfInBounds_toArray, List.set_cons_zero, List.set_cons_succ]
    refine takeW (i := 6) (d := 20) (v := .bool false) rfl rfl (by kernel_rfl) (by kernel_rfl) (by kernel_rfl) (fun _ _ _ h => h) (by rfl) ?_ (by assumption) ?_
    · intro x hSx
      obtain ⟨q0, q1, q2, q3, q4, q5, q6⟩ := hSx
      go_simp
    simp only [Act.put, List.setIfInBounds_toArray, List.set_cons_zero, List.set_cons_succ]
    refine takeW (i := 7) (d := 21) (v := .bool false) rfl rfl (by kernel_rfl) (by kernel_rfl) (by kernel_rfl) (fun _ _ _ h => h) (by rfl) ?_ (by assumption) ?_
    · intro x hSx
      obtain ⟨q0, q1, q2, q3, q4, q5, q6⟩ := hSx
      go_simp
    simp only [Act.put, List.setIfInBounds_toArray, List.set_cons_zero, List.set_cons_succ]
    refine takeW (i := 8) (d := 22) (v := ov p ka kc ia (flen T) ic) rfl rfl (by kernel_rfl) (by kernel_rfl) (by kernel_rfl) (fun _ _ _ h => h) (by rfl) ?_ (by assumption) ?_
    · intro x hSx
      obtain ⟨q0, q1, q2, q3, q4, q5, q6⟩ := hSx
      go_simp
    simp only [Act.put, List.setIfInBounds_toArray, List.set_cons_zero, List.set_cons_succ]
    refine wpAnyH_ready (rs := [9]) (by kernel_rfl) (by simp) ?_
    refine AllReadyH.cons rfl (fun K hK => ?_) AllReadyH.nil
    rw [if_pos (by rfl)]
    go_simp
    go_at_call 46
    refine (CF.out _ ?_).mono ?_
    · exact below_d5 HX.out (Below.refl _ _) rfl rfl rfl rfl
    rintro e wy ⟨rfl, hy⟩
    replace HX := hide (below_d5 HX.out hy rfl rfl rfl rfl)
    clear hy
    refine hK.out _ _ (KS.out _ HX.out) (fun hHeld => ?_)
    clear hK K
    refine takeW (i := 10) (d := 24) (v := .bool true) rfl rfl (by kernel_rfl) (by kernel_rfl) (by kernel_rfl) (fun _ _ _ h => h) (by rfl) ?_ (by assumption) ?_
    · intro x hSx
      obtain ⟨q0, q1, q2, q3, q4, q5, q6⟩ := hSx
      go_simp
    simp only [Act.put, List.setIfInBounds_toArray, List.set_cons_zero, List.set_cons_succ]
    refine takeW (i := 11) (d := 25) (v := .bool true) rfl rfl (by kernel_rfl) (by kernel_rfl) (by kernel_rfl) (fun _ _ _ h => h) (by rfl) ?_ (by assumption) ?_
    · intro x hSx
      obtain ⟨q0, q1, q2, q3, q4, q5, q6⟩ := hSx
      go_simp
    simp only [Act.put, List.setIfInBounds_toArray, List.set_cons_zero, List.set_cons_succ]
    refine takeW (i := 12) (d := 26) (v := .bool true) rfl rfl (by kernel_rfl) (by kernel_rfl) (by kernel_rfl) (fun _ _ _ h => h) (by rfl) ?_ (by assumption) ?_
    · intro x hSx
      obtain ⟨q0, q1, q2, q3, q4, q5, q6⟩ := hSx
      go_simp
    simp only [Act.put, List.setIfInBounds_toArray, List.set_cons_zero, List.set_cons_succ]
    refine takeN (i := 13) (d := 27) rfl rfl (by kernel_rfl) (by kernel_rfl) (by kernel_rfl) (fun _ _ _ h => h) (by rfl) (by assumption) ?_
    simp only [Act.put, List.setIfInBounds_toArray, List.set_cons_zero, List.set_cons_succ]
    refine takeN (i := 14) (d := 28) rfl rfl (by kernel_rfl) (by kernel_rfl) (by kernel_rfl) (fun _ _ _ h => h) (by rfl) (by assumption) ?_
    simp only [Act.put, List.setIfInBounds_toArray, List.set_cons_zero, List.set_cons_succ]
    refine takeN (i := 15) (d := 29) rfl rfl (by kernel_rfl) (by kernel_rfl) (by kernel_rfl) (fun _ _ _ h => h) (by rfl) (by assumption) ?_
    simp only [Act.put, List.setIfInBounds_toArray, List.set_cons_zero, List.set_cons_succ]
    refine takeN (i := 16) (d := 30) rfl rfl (by kernel_rfl) (by kernel_rfl) (by kernel_rfl) (fun _ _ _ h => h) (by rfl) (by assumption) ?_
    simp only [Act.put, List.setIfInBounds_toArray, List.set_cons_zero, List.set_cons_succ]
    refine takeN (i := 17) (d := 31) rfl rfl (by kernel_rfl) (by kernel_rfl) (by kernel_rfl) (fun _ _ _ h => h) (by rfl) (by assumption) ?_
    simp only [Act.put, List.setIfInBounds_toArray, List.set_cons_zero, List.set_cons_succ]
    refine takeN (i := 18) (d := 32) rfl rfl (by kernel_rfl) (by kernel_rfl) (by kernel_rfl) (fun _ _ _ h => h) (by rfl) (by assumption) ?_
    simp only [Act.put, List.setIfInBounds_toArray, List.set_cons_zero, List.set_cons_succ]
    refine takeW (i := 19) (d := 33) (v := .bool true) rfl rfl (by kernel_rfl) (by kernel_rfl) (by kernel_rfl) (fun _ _ _ h => h) (by rfl) ?_ (by assumption) ?_
    · intro x hSx
      obtain ⟨q0, q1, q2, q3, q4, q5, q6⟩ := hSx
      go_simp
    simp only [Act.put, List.setIfInBounds_toArray, List.set_cons_zero, List.set_cons_succ]
    refine wpAnyH_done (by kernel_rfl) ?_ _
    all_goals
      refine HKK.out _ _ ?_
      go_wp2_with fail
      go_ret
      exact RB.out _ (below_d5 HX.out (Below.refl _ _) rfl rfl rfl rfl) HG.out
  rw [hF] at CF
  by_cases hC : cont p = true ∧ 32 < deep - 1 + 1
  · rw [hC.1] at CN
    have hdd : decide ((32 : Int) < deep) = true := by simp; omega
    have HG := hide (BAD.out (Or.inr (Or.inr hC)))
    clear hC
    go_region_held3 (fun x => x.cell? ⟨L, 0, none⟩ = some (.int .i64 (n - 1)) ∧ x.cell? ⟨w.heap.size, 0, none⟩ = some (.int .i64 p.kind) ∧ x.cell? ⟨w.heap.size, 1, none⟩ = some (.bool p.flag) ∧ x.cell? ⟨w.heap.size, 2, none⟩ = some (.int .i64 p.num) ∧ x.cell? ⟨w.heap.size, 3, none⟩ = some (.string p.text) ∧ x.cell? ⟨w.heap.size, 4, none⟩ = some (.slice ka p.keys.length kc) ∧ x.cell? ⟨w.heap.size, 5, none⟩ = some (.slice ia (flen T) ic)) (first | exact KS.out _ (below_d5 HX.out (Below.refl _ _) rfl rfl rfl rfl) | go_keep) ((first | (refine skip_if (by rfl) ?_) | (go_at_call 46; refine (CF.out _ ?_).mono ?_; exact below_d5 HX.out (Below.refl _ _) rfl rfl rfl rfl; rintro e wy ⟨rfl, hy⟩; replace HX := hide (below_d5 HX.out hy rfl rfl rfl rfl); clear hy) | (go_at_call 47; refine (CN.out _).mono ?_; rintro e wy ⟨rfl, hy⟩; replace HX := hide (below_d5 HX.out hy rfl rfl rfl rfl); clear hy)))
    all_goals
      refine HKK.out _ _ ?_
      go_wp2_with fail
      go_ret
      exact RB.out _ (below_d5 HX.out (Below.refl _ _) rfl rfl rfl rfl) HG.out
  have hGL : goodV p T (deep - 1) (65536 - n) = goodF T deep (65536 - (n - 1)) := by
    rw [good_land h0 h1, if_neg (by
      rintro (h | h | h)
      · exact hA h
      · rw [hF] at h; cases h
      · exact hC h), show deep - 1 + 1 = deep by omega]
  have HDP : Hid (0 < flen T → deep ≤ 32) := hide (fun hp => by
    cases hcc : cont p with
    | true =>
      rcases Int.lt_or_le 32 deep with h | h
      · exact absurd ⟨hcc, by omega⟩ hC
      · exact h
    | false => have := flat_noItems hF hcc; omega)
  obtain ⟨G, hG⟩ : ∃ G, goodF T deep (65536 - (n - 1)) = G := ⟨_, rfl⟩
  rw [hG] at hGL
  have HGG := hide hG
  have HGV := hide hGL
  clear BAD RB hG
  obtain ⟨b, off, hia, hrows⟩ := OIn.at_ HI.out
  have HRW := hide hrows
  have HIA := hide hia
  clear hrows hia
  cases hcc : cont p
  · rw [hcc] at CN
    clear hC hcc hF hGL
    refine wp_region_held_drew (S := (fun x => x.cell? ⟨L, 0, none⟩ = some (.int .i64 (n - 1)) ∧ x.cell? ⟨w.heap.size, 0, none⟩ = some (.int .i64 p.kind) ∧ x.cell? ⟨w.heap.size, 1, none⟩ = some (.bool p.flag) ∧ x.cell? ⟨w.heap.size, 2, none⟩ = some (.int .i64 p.num) ∧ x.cell? ⟨w.heap.size, 3, none⟩ = some (.string p.text) ∧ x.cell? ⟨w.heap.size, 4, none⟩ = some (.slice ka p.keys.length kc) ∧ x.cell? ⟨w.heap.size, 5, none⟩ = some (.slice ia (flen T) ic))) (by kernel_rfl) (KS.out _ (below_d5 HX.out (Below.refl _ _) rfl rfl rfl rfl)) (fun hHeld => ?_)
    refine takeW (i := 0) (d := 14) (v := .pointer (some ⟨L, 0, none⟩)) rfl rfl (by kernel_rfl) (by kernel_rfl) (by kernel_rfl) (fun _ _ _ h => h) (by rfl) ?_ (by assumption) ?_
    · intro x hSx
      obtain ⟨q0, q1, q2, q3, q4, q5, q6⟩ := hSx
      go_simp
    simp only [Act.put, List.setIfInBounds_toArray, List.set_cons_zero, List.set_cons_succ]
    refine takeW (i := 1) (d := 15) (v := .pointer (some ⟨L, 0, none⟩)) rfl rfl (by kernel_rfl) (by kernel_rfl) (by kernel_rfl) (fun _ _ _ h => h) (by rfl) ?_ (by assumption) ?_
    · intro x hSx
      obtain ⟨q0, q1, q2, q3, q4, q5, q6⟩ := hSx
      go_simp
    simp only [Act.put, List.setIfInBounds_toArray, List.set_cons_zero, List.set_cons_succ]
    refine takeW (i := 2) (d := 16) (v := .int .i64 (n - 1)) rfl rfl (by kernel_rfl) (by kernel_rfl) (by kernel_rfl) (fun _ _ _ h => h) (by rfl) ?_ (by assumption) ?_
    · intro x hSx
      obtain ⟨q0, q1, q2, q3, q4, q5, q6⟩ := hSx
      go_simp
    simp only [Act.put, List.setIfInBounds_toArray, List.set_cons_zero, List.set_cons_succ]
    refine takeW (i := 3) (d := 17) (v := .pointer (some ⟨w.heap.size, 5, none⟩)) rfl rfl (by kernel_rfl) (by kernel_rfl) (by kernel_rfl) (fun _ _ _ h => h) (by rfl) ?_ (by assumption) ?_
    · intro x hSx
      obtain ⟨q0, q1, q2, q3, q4, q5, q6⟩ := hSx
      go_simp
    simp only [Act.put, List.setIfInBounds_toArray, List.set_cons_zero, List.set_cons_succ]
    refine takeW (i := 4) (d := 18) (v := .slice ia (flen T) ic) rfl rfl (by kernel_rfl) (by kernel_rfl) (by kernel_rfl) (fun _ _ _ h => h) (by rfl) ?_ (by assumption) ?_
    · intro x hSx
      obtain ⟨q0, q1, q2, q3, q4, q5, q6⟩ := hSx
      go_simp
    simp only [Act.put, List.setIfInBounds_toArray, List.set_cons_zero, List.set_cons_succ]
    refine takeW (i := 5) (d := 19) (v := .int .i64 (flen T)) rfl rfl (by kernel_rfl) (by kernel_rfl) (by kernel_rfl) (fun _ _ _ h => h) (by rfl) ?_ (by assumption) ?_
    · intro x hSx
      obtain ⟨q0, q1, q2, q3, q4, q5, q6⟩ := hSx
      go_simp
    simp only [Act.put, List.setIfInBounds_toArray, List.set_cons_zero, List.set_cons_succ]
    refine takeW (i := 6) (d := 20) (v := .bool false) rfl rfl (by kernel_rfl) (by kernel_rfl) (by kernel_rfl) (fun _ _ _ h => h) (by rfl) ?_ (by assumption) ?_
    · intro x hSx
      obtain ⟨q0, q1, q2, q3, q4, q5, q6⟩ := hSx
      go_simp
    simp only [Act.put, List.setIfInBounds_toArray, List.set_cons_zero, List.set_cons_succ]
    refine takeW (i := 7) (d := 21) (v := .bool false) rfl rfl (by kernel_rfl) (by kernel_rfl) (by kernel_rfl) (fun _ _ _ h => h) (by rfl) ?_ (by assumption) ?_
    · intro x hSx
      obtain ⟨q0, q1, q2, q3, q4, q5, q6⟩ := hSx
      go_simp
    simp only [Act.put, List.setIfInBounds_toArray, List.set_cons_zero, List.set_cons_succ]
    refine takeW (i := 8) (d := 22) (v := ov p ka kc ia (flen T) ic) rfl rfl (by kernel_rfl) (by kernel_rfl) (by kernel_rfl) (fun _ _ _ h => h) (by rfl) ?_ (by assumption) ?_
    · intro x hSx
      obtain ⟨q0, q1, q2, q3, q4, q5, q6⟩ := hSx
      go_simp
    simp only [Act.put, List.setIfInBounds_toArray, List.set_cons_zero, List.set_cons_succ]
    refine wpAnyH_ready (rs := [9]) (by kernel_rfl) (by simp) ?_
    refine AllReadyH.cons rfl (fun K hK => ?_) AllReadyH.nil
    rw [if_pos (by rfl)]
    go_simp
    go_at_call 46
    refine (CF.out _ ?_).mono ?_
    · exact below_d5 HX.out (Below.refl _ _) rfl rfl rfl rfl
    rintro e wy ⟨rfl, hy⟩
    replace HX := hide (below_d5 HX.out hy rfl rfl rfl rfl)
    clear hy
    refine hK.out _ _ (KS.out _ HX.out) (fun hHeld => ?_)
    clear hK K
    refine takeW (i := 10) (d := 24) (v := .bool false) rfl rfl (by kernel_rfl) (by kernel_rfl) (by kernel_rfl) (fun _ _ _ h => h) (by rfl) ?_ (by assumption) ?_
    · intro x hSx
      obtain ⟨q0, q1, q2, q3, q4, q5, q6⟩ := hSx
      go_simp
    simp only [Act.put, List.setIfInBounds_toArray, List.set_cons_zero, List.set_cons_succ]
    refine takeW (i := 11) (d := 25) (v := .bool false) rfl rfl (by kernel_rfl) (by kernel_rfl) (by kernel_rfl) (fun _ _ _ h => h) (by rfl) ?_ (by assumption) ?_
    · intro x hSx
      obtain ⟨q0, q1, q2, q3, q4, q5, q6⟩ := hSx
      go_simp
    simp only [Act.put, List.setIfInBounds_toArray, List.set_cons_zero, List.set_cons_succ]
    refine takeW (i := 12) (d := 26) (v := .bool false) rfl rfl (by kernel_rfl) (by kernel_rfl) (by kernel_rfl) (fun _ _ _ h => h) (by rfl) ?_ (by assumption) ?_
    · intro x hSx
      obtain ⟨q0, q1, q2, q3, q4, q5, q6⟩ := hSx
      go_simp
    simp only [Act.put, List.setIfInBounds_toArray, List.set_cons_zero, List.set_cons_succ]
    refine takeW (i := 13) (d := 27) (v := ov p ka kc ia (flen T) ic) rfl rfl (by kernel_rfl) (by kernel_rfl) (by kernel_rfl) (fun _ _ _ h => h) (by rfl) ?_ (by assumption) ?_
    · intro x hSx
      obtain ⟨q0, q1, q2, q3, q4, q5, q6⟩ := hSx
      go_simp
    simp only [Act.put, List.setIfInBounds_toArray, List.set_cons_zero, List.set_cons_succ]
    refine wpAnyH_ready (rs := [14]) (by kernel_rfl) (by simp) ?_
    refine AllReadyH.cons rfl (fun K hK => ?_) AllReadyH.nil
    rw [if_pos (by rfl)]
    go_simp
    go_at_call 47
    refine (CN.out _).mono ?_
    rintro e wy ⟨rfl, hy⟩
    replace HX := hide (below_d5 HX.out hy rfl rfl rfl rfl)
    clear hy
    refine hK.out _ _ (KS.out _ HX.out) (fun hHeld => ?_)
    clear hK K
    refine takeW (i := 15) (d := 29) (v := .bool false) rfl rfl (by kernel_rfl) (by kernel_rfl) (by kernel_rfl) (fun _ _ _ h => h) (by rfl) ?_ (by assumption) ?_
    · intro x hSx
      obtain ⟨q0, q1, q2, q3, q4, q5, q6⟩ := hSx
      go_simp
    simp only [Act.put, List.setIfInBounds_toArray, List.set_cons_zero, List.set_cons_succ]
    refine takeN (i := 16) (d := 30) rfl rfl (by kernel_rfl) (by kernel_rfl) (by kernel_rfl) (fun _ _ _ h => h) (by rfl) (by assumption) ?_
    simp only [Act.put, List.setIfInBounds_toArray, List.set_cons_zero, List.set_cons_succ]
    refine takeN (i := 17) (d := 31) rfl rfl (by kernel_rfl) (by kernel_rfl) (by kernel_rfl) (fun _ _ _ h => h) (by rfl) (by assumption) ?_
    simp only [Act.put, List.setIfInBounds_toArray, List.set_cons_zero, List.set_cons_succ]
    refine takeW (i := 18) (d := 32) (v := .bool false) rfl rfl (by kernel_rfl) (by kernel_rfl) (by kernel_rfl) (fun _ _ _ h => h) (by rfl) ?_ (by assumption) ?_
    · intro x hSx
      obtain ⟨q0, q1, q2, q3, q4, q5, q6⟩ := hSx
      go_simp
    simp only [Act.put, List.setIfInBounds_toArray, List.set_cons_zero, List.set_cons_succ]
    refine takeW (i := 19) (d := 33) (v := .bool false) rfl rfl (by kernel_rfl) (by kernel_rfl) (by kernel_rfl) (fun _ _ _ h => h) (by rfl) ?_ (by assumption) ?_
    · intro x hSx
      obtain ⟨q0, q1, q2, q3, q4, q5, q6⟩ := hSx
      go_simp
    simp only [Act.put, List.setIfInBounds_toArray, List.set_cons_zero, List.set_cons_succ]
    refine wpAnyH_done (by kernel_rfl) ?_ _
    refine HKK.out _ _ ?_
    obtain ⟨v0, v1, v2, v3, v4, v5, v6⟩ := KS.out _ (below_d5 HX.out (Below.refl _ _) rfl rfl rfl rfl)
    go_wp2_with fail
    have HW0 := hide (below_d5 HX.out (Below.refl _ _) rfl rfl rfl rfl)
    clear v0 v1 v2 v3 v4 v5 v6
    go_loopw [37] (fun vi wr => ∃ (k : Nat) (m : Int) (U : BT Pay), vi = .int .i64 k ∧ Hid (flen U + k = flen T ∧ fsize U ≤ fsize T ∧ Rows (out_ L w) U b (off + k * 6) ∧ 0 ≤ m ∧ m ≤ 65536 ∧ goodF U deep (65536 - m) = G ∧ But L w wr ∧ Blk wr L #[.int .i64 m] 3)) (fun vi _ => flen T - (intOf vi).toNat)
    case atStart => exact ⟨0, n - 1, T, rfl, hide ⟨by omega, Nat.le_refl _, by simpa using HRW.out, by omega, by omega, HGG.out, HU.out.trans (But.of_below (below_d5 HX.out (Below.refl _ _) rfl rfl rfl rfl)), HL.out.below (below_d5 HX.out (Below.refl _ _) rfl rfl rfl rfl)⟩⟩
    case round =>
      clear HW0 HX
      obtain ⟨k, m, U, rfl, HV⟩ := hrel
      obtain ⟨hk, hu, hrow, hm0, hm1, hg, hbut, hkL⟩ := HV.out
      clear HV
      have HBU := hide hbut
      have HKL := hide hkL
      have hkk : (0 : Int) ≤ (k : Int) := by omega
      cases U with
      | nil =>
        have hk' : ¬ k < flen T := by simp [flen] at hk; omega
        have hmg : 65536 - m = G := hg
        have HF : Hid (GoodR L w G (.returned (.bool true)) wr) := hide ⟨by rw [decide_eq_true (by omega)], hbut, m, hkL, fun _ => by omega⟩
        clear hk hrow hg hbut hkL hu hmg
        go_wp2_with fail
        go_ret
        rw [HGV.out]
        exact HF.out
      | node b0 o0 q TT N =>
        obtain ⟨⟨ka', kc', ia', ic', g6, gin⟩, grest⟩ := rows_node.1 hrow
        obtain rfl | ⟨rfl, hbz⟩ := HIA.out
        · simp [flen] at hk
        have hlt' : k < flen T := by simp [flen] at hk; omega
        have hst : fsize TT < M := by have := HM.out; simp [fsize] at hu; omega
        have hdp : deep ≤ 32 := HDP.out (by omega)
        have hs1 : Sub (out_ L w) wr := hbut.out_.trans (onlyA_sub_all _ _)
        obtain ⟨c0, c1, c2, c3, c4, c5⟩ := g6.sub hs1
        have hbA := hbut.trans (But.of_below (b := L) ((Below.refl wr.heap.size wr).alloc (Nat.le_refl _) (.cells (obox q ka' kc' ia' (flen TT) ic') 39)))
        have CI := IH.out q TT ka' kc' ia' ic' (deep + 1) m L _ hst (gin.sub hbA.out_) (by omega) (by omega) hm0 hm1 (hkL.below ((Below.refl wr.heap.size wr).alloc (Nat.le_refl _) (.cells (obox q ka' kc' ia' (flen TT) ic') 39)))
        have hle := goodV_le q TT deep (65536 - m) (by omega) (by omega)
        rw [goodF_node] at hg
        rw [show deep + 1 - 1 = deep by omega] at CI
        generalize goodV q TT deep (65536 - m) = r at CI hg hle
        have CI := hide CI
        have HG2 := hide hg
        have HBA := hide hbA
        have HK2 := hide (show flen N + (k + 1) = flen T ∧ fsize N ≤ fsize T by simp [flen, fsize] at hk hu; omega)
        have HRR := hide grest
        clear hk hu hrow hg hbut hkL g6 gin grest hs1 hbA
        by_cases hr : 0 ≤ r
        · have hr' : decide (0 ≤ r) = true := decide_eq_true hr
          unfold GoodR at CI
          rw [hr'] at CI
          go_wp2_with (go_at_call 37; refine CI.out.mono ?_; rintro e wy ⟨rfl, hyb, n', hyk, hn'⟩; have HY := hide hyb; have HYK := hide hyk; have HN := hide (hn' hr); clear hyb hyk hn')
          go_roundw
          case rel => exact ⟨k + 1, n', N, by go_num, hide ⟨HK2.out.1, HK2.out.2, by have := HRR.out; rw [show off + (k + 1) * 6 = off + k * 6 + 6 by omega]; exact this, by have := HN.out; omega, by have := HN.out; omega, by have := HG2.out; rw [if_neg (by omega)] at this; rw [HN.out, show 65536 - (65536 - r) = r by omega]; exact this, HBA.out.trans HY.out, HYK.out⟩⟩
          case measure => simp [intOf]; omega
        · have hr' : decide (0 ≤ r) = false := decide_eq_false hr
          unfold GoodR at CI
          rw [hr'] at CI
          go_wp2_with (go_at_call 37; refine CI.out.mono ?_; rintro e wy ⟨rfl, hyb, n', hyk, hn'⟩; have HY := hide hyb; have HYK := hide hyk; clear hyb hyk hn')
          go_ret
          have hG : G = -1 := by have := HG2.out; rw [if_pos (by omega)] at this; exact this.symm
          rw [HGV.out]
          exact ⟨congrArg (fun b => Ending.returned (.bool b)) (decide_eq_false (show ¬ (0 : Int) ≤ G by omega)).symm, HBA.out.trans HY.out, n', HYK.out, fun h => absurd h (by omega)⟩
  · rw [hcc] at CN
    have hdd : decide ((32 : Int) < deep) = false := by
      rw [decide_eq_false_iff_not]
      exact fun h => hC ⟨hcc, by omega⟩
    clear hC hcc hF hGL
    go_region_held3 (fun x => x.cell? ⟨L, 0, none⟩ = some (.int .i64 (n - 1)) ∧ x.cell? ⟨w.heap.size, 0, none⟩ = some (.int .i64 p.kind) ∧ x.cell? ⟨w.heap.size, 1, none⟩ = some (.bool p.flag) ∧ x.cell? ⟨w.heap.size, 2, none⟩ = some (.int .i64 p.num) ∧ x.cell? ⟨w.heap.size, 3, none⟩ = some (.string p.text) ∧ x.cell? ⟨w.heap.size, 4, none⟩ = some (.slice ka p.keys.length kc) ∧ x.cell? ⟨w.heap.size, 5, none⟩ = some (.slice ia (flen T) ic)) (first | exact KS.out _ (below_d5 HX.out (Below.refl _ _) rfl rfl rfl rfl) | go_keep) ((first | (go_at_call 46; refine (CF.out _ ?_).mono ?_; exact below_d5 HX.out (Below.refl _ _) rfl rfl rfl rfl; rintro e wy ⟨rfl, hy⟩; replace HX := hide (below_d5 HX.out hy rfl rfl rfl rfl); clear hy) | (go_at_call 47; refine (CN.out _).mono ?_; rintro e wy ⟨rfl, hy⟩; replace HX := hide (below_d5 HX.out hy rfl rfl rfl rfl); clear hy)))
    refine HKK.out _ _ ?_
    obtain ⟨v0, v1, v2, v3, v4, v5, v6⟩ := KS.out _ (below_d5 HX.out (Below.refl _ _) rfl rfl rfl rfl)
    go_wp2_with fail
    have HW0 := hide (below_d5 HX.out (Below.refl _ _) rfl rfl rfl rfl)
    clear v0 v1 v2 v3 v4 v5 v6
    go_loopw [37] (fun vi wr => ∃ (k : Nat) (m : Int) (U : BT Pay), vi = .int .i64 k ∧ Hid (flen U + k = flen T ∧ fsize U ≤ fsize T ∧ Rows (out_ L w) U b (off + k * 6) ∧ 0 ≤ m ∧ m ≤ 65536 ∧ goodF U deep (65536 - m) = G ∧ But L w wr ∧ Blk wr L #[.int .i64 m] 3)) (fun vi _ => flen T - (intOf vi).toNat)
    case atStart => exact ⟨0, n - 1, T, rfl, hide ⟨by omega, Nat.le_refl _, by simpa using HRW.out, by omega, by omega, HGG.out, HU.out.trans (But.of_below (below_d5 HX.out (Below.refl _ _) rfl rfl rfl rfl)), HL.out.below (below_d5 HX.out (Below.refl _ _) rfl rfl rfl rfl)⟩⟩
    case round =>
      clear HW0 HX
      obtain ⟨k, m, U, rfl, HV⟩ := hrel
      obtain ⟨hk, hu, hrow, hm0, hm1, hg, hbut, hkL⟩ := HV.out
      clear HV
      have HBU := hide hbut
      have HKL := hide hkL
      have hkk : (0 : Int) ≤ (k : Int) := by omega
      cases U with
      | nil =>
        have hk' : ¬ k < flen T := by simp [flen] at hk; omega
        have hmg : 65536 - m = G := hg
        have HF : Hid (GoodR L w G (.returned (.bool true)) wr) := hide ⟨by rw [decide_eq_true (by omega)], hbut, m, hkL, fun _ => by omega⟩
        clear hk hrow hg hbut hkL hu hmg
        go_wp2_with fail
        go_ret
        rw [HGV.out]
        exact HF.out
      | node b0 o0 q TT N =>
        obtain ⟨⟨ka', kc', ia', ic', g6, gin⟩, grest⟩ := rows_node.1 hrow
        obtain rfl | ⟨rfl, hbz⟩ := HIA.out
        · simp [flen] at hk
        have hlt' : k < flen T := by simp [flen] at hk; omega
        have hst : fsize TT < M := by have := HM.out; simp [fsize] at hu; omega
        have hdp : deep ≤ 32 := HDP.out (by omega)
        have hs1 : Sub (out_ L w) wr := hbut.out_.trans (onlyA_sub_all _ _)
        obtain ⟨c0, c1, c2, c3, c4, c5⟩ := g6.sub hs1
        have hbA := hbut.trans (But.of_below (b := L) ((Below.refl wr.heap.size wr).alloc (Nat.le_refl _) (.cells (obox q ka' kc' ia' (flen TT) ic') 39)))
        have CI := IH.out q TT ka' kc' ia' ic' (deep + 1) m L _ hst (gin.sub hbA.out_) (by omega) (by omega) hm0 hm1 (hkL.below ((Below.refl wr.heap.size wr).alloc (Nat.le_refl _) (.cells (obox q ka' kc' ia' (flen TT) ic') 39)))
        have hle := goodV_le q TT deep (65536 - m) (by omega) (by omega)
        rw [goodF_node] at hg
        rw [show deep + 1 - 1 = deep by omega] at CI
        generalize goodV q TT deep (65536 - m) = r at CI hg hle
        have CI := hide CI
        have HG2 := hide hg
        have HBA := hide hbA
        have HK2 := hide (show flen N + (k + 1) = flen T ∧ fsize N ≤ fsize T by simp [flen, fsize] at hk hu; omega)
        have HRR := hide grest
        clear hk hu hrow hg hbut hkL g6 gin grest hs1 hbA
        by_cases hr : 0 ≤ r
        · have hr' : decide (0 ≤ r) = true := decide_eq_true hr
          unfold GoodR at CI
          rw [hr'] at CI
          go_wp2_with (go_at_call 37; refine CI.out.mono ?_; rintro e wy ⟨rfl, hyb, n', hyk, hn'⟩; have HY := hide hyb; have HYK := hide hyk; have HN := hide (hn' hr); clear hyb hyk hn')
          go_roundw
          case rel => exact ⟨k + 1, n', N, by go_num, hide ⟨HK2.out.1, HK2.out.2, by have := HRR.out; rw [show off + (k + 1) * 6 = off + k * 6 + 6 by omega]; exact this, by have := HN.out; omega, by have := HN.out; omega, by have := HG2.out; rw [if_neg (by omega)] at this; rw [HN.out, show 65536 - (65536 - r) = r by omega]; exact this, HBA.out.trans HY.out, HYK.out⟩⟩
          case measure => simp [intOf]; omega
        · have hr' : decide (0 ≤ r) = false := decide_eq_false hr
          unfold GoodR at CI
          rw [hr'] at CI
          go_wp2_with (go_at_call 37; refine CI.out.mono ?_; rintro e wy ⟨rfl, hyb, n', hyk, hn'⟩; have HY := hide hyb; have HYK := hide hyk; clear hyb hyk hn')
          go_ret
          have hG : G = -1 := by have := HG2.out; rw [if_pos (by omega)] at this; exact this.symm
          rw [HGV.out]
          exact ⟨congrArg (fun b => Ending.returned (.bool b)) (decide_eq_false (show ¬ (0 : Int) ≤ G by omega)).symm, HBA.out.trans HY.out, n', HYK.out, fun h => absurd h (by omega)⟩
theorem ogood_core : ∀ (M : Nat) (p : Pay) (T : BT Pay) (ka : Option Addr) (kc : Nat) (ia : Option Addr) (ic : Nat) (deep n : Int) (L : Nat) (w : World), fsize T < M → OIn (out_ L w) p T ka kc ia ic → 1 ≤ deep → deep ≤ 33 → 0 ≤ n → n ≤ 65536 → Blk w L #[.int .i64 n] 3 →
      Calls Tryd.prog 37 #[ov p ka kc ia (flen T) ic, .int .i64 deep, .pointer (some ⟨L, 0, none⟩)] w fun e w' => GoodR L w (goodV p T (deep - 1) (65536 - n)) e w'
  | 0 => fun _ _ _ _ _ _ _ _ _ _ h => absurd h (Nat.not_lt_zero _)
  | M + 1 => fun p T ka kc ia ic deep n L w hM hin a b c d e => ogood_step M (ogood_core M) p T ka kc ia ic deep n L w (by omega) hin a b c d e
theorem oGood_any (p : Pay) (T : BT Pay) (ka : Option Addr) (kc : Nat) (ia : Option Addr) (ic : Nat) (w : World) (hin : OIn w p T ka kc ia ic) :
    Calls Tryd.prog 30 #[ov p ka kc ia (flen T) ic] w fun e w' => e = .returned (.bool (decide (0 < goodV p T 0 0))) ∧ Below w.heap.size w w' := by
  have hb : Below w.heap.size w ((w.alloc (.cells (obox p ka kc ia (flen T) ic) 39)).alloc (.cells #[.int .i64 65536] 3)) := ((Below.refl w.heap.size w).alloc (Nat.le_refl _) _).alloc (by simp) _
  have hk : Blk ((w.alloc (.cells (obox p ka kc ia (flen T) ic) 39)).alloc (.cells #[.int .i64 65536] 3)) (w.heap.size + 1) #[.int .i64 65536] 3 := by
    have := Blk.new (w.alloc (.cells (obox p ka kc ia (flen T) ic) 39)) #[.int .i64 65536] 3
    rwa [show (w.alloc (.cells (obox p ka kc ia (flen T) ic) 39)).heap.size = w.heap.size + 1 by simp] at this
  have hs : Sub w (out_ (w.heap.size + 1) ((w.alloc (.cells (obox p ka kc ia (flen T) ic) 39)).alloc (.cells #[.int .i64 65536] 3))) := by
    refine ⟨by rw [onlyA_size]; exact hb.size, fun q v hv => ?_⟩
    have hq : q.block < w.heap.size := by
      rcases Nat.lt_or_ge q.block w.heap.size with hl | hl
      · exact hl
      · unfold World.cell? at hv; rw [Array.getElem?_eq_none hl] at hv; cases hv
    exact sub_onlyA (S := fun k => k ≠ w.heap.size + 1) (by omega) ((hb.cell hq).trans hv)
  have C := hide (ogood_core _ p T ka kc ia ic 1 65536 (w.heap.size + 1) _ (Nat.lt_succ_self _) (hin.sub hs) (by omega) (by omega) (by omega) (by omega) hk)
  have e0 : decide (0 < goodV p T 0 0) = decide (0 ≤ goodV p T 0 0) := by
    have := goodV_le p T 0 0 (by omega) (by omega)
    have h2 : goodV p T 0 0 ≠ 0 := by
      intro h
      have h3 : (0 : Int) ≤ goodV p T 0 0 := by omega
      unfold goodV gV at h
      split at h
      · omega
      · split at h
        · split at h
          · omega
          · have := goodF_ge T (0 + 1) (0 + 1) (by omega) (by omega); omega
        · have := goodF_ge T 0 (0 + 1) (by omega) (by omega); omega
    rw [Bool.eq_iff_iff, decide_eq_true_iff, decide_eq_true_iff]
    omega
  rw [e0]
  unfold GoodR at C
  rw [show (1 : Int) - 1 = 0 by omega, show (65536 : Int) - 65536 = 0 by omega] at C
  generalize goodV p T 0 0 = g at C
  have HB := hide hb
  clear hin hs hk hb e0
  go_enter Tryd.func30, Tryd.ntmps30
  go_wp2_with (go_at_call 37; refine C.out.mono ?_; rintro e wy ⟨rfl, hyb, n', hyk, hn'⟩; have HY := hide hyb; clear hyb hyk hn')
  go_ret
  exact ⟨rfl, HY.out.below HB.out (by omega)⟩
end Go.Proofs.YtlnkddmpcicejaaDoor
/-
  Bytes appended to a row that the call owns; what the landed appendHex answers.
-/
namespace Go.Proofs.YtlnkddmpcicejaaDoor
open Go.RowKit Go.Deep

theorem bcells_one (l : List UInt8) : ∀ u ∈ l.map bcell, u.oneCell' = true := fun u hu => by
  obtain ⟨_, _, rfl⟩ := List.mem_map.1 hu
  rfl
theorem app_b {W : World} {B : Nat} {v : Value} {ys : List UInt8} (news : List UInt8) (h : BRow W B v ys) (hB : B ≤ W.heap.size) (hm : 0 < news.length) (hl : ys.length + news.length ≤ 140737488355328) (H : Nat) (hH : W.heap.size = H) :
    ∃ v' w2, (Builtin.append_ #[52, 52] 52 #[v, .slice (some ⟨H, 0, none⟩) news.length news.length]).run Tryd.prog (W.alloc (.cells (news.map bcell).toArray 5)) = .ok v' w2 ∧
      BRow w2 B v' (ys ++ news) ∧ Below B W w2 := by
  obtain ⟨i0, hi, hz0, hz1, hz2⟩ := info_parts5 info_u8
  subst hH
  obtain ⟨g, cap, w2, hr, ho, hg, _, _⟩ := run_append_lies (P := Tryd.prog) (W.alloc (.cells (news.map bcell).toArray 5)) 52 52 B 5 i0 _ 1 1 Tryd.underlying52 hi hz0 hz1 hz2 rfl (by decide) v ys.length (ys.map bcell) (World.ownsRow.alloc h _) ⟨W.heap.size, 0, none⟩ news.length news.length (news.map bcell) (by simp)
    (fun j u hu => by rw [Go.WideShapes.add_plain, Nat.zero_add, World.cell?_alloc_at _ _ _ _ rfl]; simpa using hu) (bcells_one _) hm (by unfold maxLen; omega) (by omega) (by simp; omega) (W.heap.size + 1) (by simp)
  refine ⟨_, w2, hr, ?_, ((Below.refl B W).alloc hB _).grown hg (by simp; omega) fun k hk' => (World.ownsRow.lt h k hk').1⟩
  unfold BRow
  rw [List.map_append, List.length_append]
  exact ho
def upD (n : Nat) : UInt8 := UInt8.ofNat (if n < 10 then 48 + n else 55 + n)
def hexT (c : UInt8) : List UInt8 := [upD (c.toNat / 16), upD (c.toNat % 16)]
abbrev hexS : ByteArray := ⟨#[48, 49, 50, 51, 52, 53, 54, 55, 56, 57, 65, 66, 67, 68, 69, 70]⟩
theorem hexS_at : ∀ n : Fin 16, hexS[n.val]'(by have := n.isLt; exact this) = upD n.val := by decide
theorem and15 : ∀ n : Fin 256, bits BinOp.and IntKind.u8 (n.val : Int) 15 = ((n.val % 16 : Nat) : Int) := by decide +kernel
set_option maxRecDepth 8000 in
set_option maxHeartbeats 4000000 in
theorem appendHex_any (v : Value) (ys : List UInt8) (B : Nat) (c : UInt8) (w : World) (h : BRow w B v ys) (hB : B ≤ w.heap.size) (hl : ys.length + 2 ≤ 140737488355328) :
    Calls Tryd.prog 53 #[v, .int .u8 (c.toNat : Int)] w fun e w' => ∃ v', e = .returned v' ∧ BRow w' B v' (ys ++ hexT c) ∧ Below B w w' := by
  obtain ⟨a, ha⟩ : ∃ a, c.toNat / 16 = a := ⟨_, rfl⟩
  obtain ⟨b, hb⟩ : ∃ b, c.toNat % 16 = b := ⟨_, rfl⟩
  have b1 : a < hexS.size := by have := c.toNat_lt; show _ < 16; omega
  have b2 : b < hexS.size := by show _ < 16; omega
  have e : [hexS[a]'b1, hexS[b]'b2] = hexT c := by
    unfold hexT
    rw [ha, hb, ← hexS_at ⟨a, b1⟩, ← hexS_at ⟨b, b2⟩]
  rw [← e]
  obtain ⟨v', w2, hr, hb2, hw2⟩ := app_b (W := w.drew) [hexS[a]'b1, hexS[b]'b2] h hB (by simp) (by simpa using hl) _ rfl
  have q1 : (c.toNat : Int) / 16 = (a : Int) := by omega
  have q2 : (c.toNat : Int) % 16 = (b : Int) := by omega
  have q3 : bits BinOp.and IntKind.u8 (c.toNat : Int) 15 = (b : Int) := by rw [and15 ⟨c.toNat, c.toNat_lt⟩, ← hb]
  have g1 : (0 : Int) ≤ (a : Int) := by omega
  have g2 : (a : Int) < 16 := by have : a < 16 := b1; omega
  have g3 : (0 : Int) ≤ (b : Int) := by omega
  have g4 : (b : Int) < 16 := by have : b < 16 := b2; omega
  have HR := hide hr
  clear hr e ha hb
  go_enter Tryd.func53, Tryd.ntmps53
  go_wp2_with fail
  go_region_held3 (fun _ => True) (first | trivial | go_keep) ((first | (refine step_append_run _ (by rfl) _ _ _ _ (by rfl) _ _ (by rfl) (by rfl) _ _ HR.out ?_)))
  all_goals
    go_wp2_with fail
    go_ret
    exact ⟨_, rfl, hb2, ⟨hw2.os, hw2.tape, hw2.output, hw2.size, hw2.block⟩⟩
/- a name's text -/
def nchT (c : UInt8) : List UInt8 := if isPl c.toNat then [c] else 35 :: hexT c
def nameT (l : List UInt8) : List UInt8 := 47 :: l.flatMap nchT
theorem nchT_len (c : UInt8) : (nchT c).length ≤ 3 := by unfold nchT hexT; split <;> simp
theorem nameT_take (s : ByteArray) (k : Nat) (h : k < s.size) : (s.data.toList.take (k + 1)).flatMap nchT = (s.data.toList.take k).flatMap nchT ++ nchT s[k] := by
  rw [take_at s k h, List.flatMap_append]
  simp
theorem flat_len (l : List UInt8) : (l.flatMap nchT).length ≤ 3 * l.length := by
  induction l with
  | nil => simp
  | cons c l ih => have := nchT_len c; simp only [List.flatMap_cons, List.length_append, List.length_cons]; omega
set_option maxRecDepth 8000 in
set_option maxHeartbeats 4000000 in
theorem appendName_any (v : Value) (ys : List UInt8) (B : Nat) (s : ByteArray) (w : World) (h : BRow w B v ys) (hB : B ≤ w.heap.size) (hl : ys.length + 3 * s.size + 1 ≤ 140737488355328) :
    Calls Tryd.prog 41 #[v, .string s] w fun e w' => ∃ v', e = .returned v' ∧ BRow w' B v' (ys ++ nameT s.data.toList) ∧ Below B w w' := by
  obtain ⟨v1, w1, hr, hb1, hw1⟩ := app_b (W := w) [47] h hB (by simp) (by simp; omega) _ rfl
  have HR := hide hr
  have HB1 := hide hb1
  have HW1 := hide hw1
  have hsz : (s.size : Int) ≤ 9223372036854775807 := by omega
  have HLL := hide hl
  have HBB := hide hB
  clear hr hb1 hw1 hl
  go_enter Tryd.func41, Tryd.ntmps41
  go_wp2_with (at_builtin; refine Lib.wpList_append_run _ rfl _ _ _ _ rfl _ _ rfl rfl _ _ HR.out ?_)
  go_loopw [0, 11] (fun vt vi wr => ∃ k : Nat, vi = .int .i64 k ∧ Hid (k ≤ s.size ∧ BRow wr B vt (ys ++ 47 :: (s.data.toList.take k).flatMap nchT) ∧ Below B w wr ∧ B ≤ wr.heap.size)) (fun _ vi _ => s.size - (intOf vi).toNat)
  case atStart => exact ⟨0, rfl, hide ⟨Nat.zero_le _, by simpa using HB1.out, HW1.out, Nat.le_trans HBB.out HW1.out.size⟩⟩
  case round =>
    clear HB1 HW1 HR
    obtain ⟨k, rfl, HV⟩ := hrel
    obtain ⟨hk, hbr, hbel, hBr⟩ := HV.out
    clear HV
    have HBL := hide hbel
    have HBR := hide hbr
    have hk0 : (0 : Int) ≤ (k : Int) := by omega
    by_cases hlt : k < s.size
    case neg =>
      have hks : k = s.size := by omega
      have HF : Hid (BRow wr B u0 (ys ++ nameT s.data.toList)) := hide (by
        have := hbr
        rw [List.take_of_length_le (by rw [← Lib.size_eq]; omega)] at this
        exact this)
      clear hk hbr hbel hks
      go_wp2_with fail
      go_ret
      exact ⟨_, rfl, HF.out, HBL.out⟩
    case pos =>
      have hlen : (ys ++ 47 :: (s.data.toList.take k).flatMap nchT).length + 3 ≤ 140737488355328 := by
        have := flat_len (s.data.toList.take k)
        have := HLL.out
        simp only [List.length_append, List.length_cons, List.length_take] at *
        omega
      have C := hide (fun w => plain_any s[k].toNat w (UInt8.toNat_lt _))
      have hst := nameT_take s k hlt
      have HLN := hide hlen
      cases hp : isPl s[k].toNat
      · rw [hp] at C
        have hn : nchT s[k] = 35 :: hexT s[k] := by unfold nchT; rw [hp]; rfl
        rw [hn] at hst
        obtain ⟨v2, w2, hr2, hb2, hw2⟩ := app_b (W := wr.drew) [35] (B := B) hbr hBr (by simp) (by simp only [List.length_singleton]; omega) _ rfl
        have HR2 := hide hr2
        have CH := hide (appendHex_any _ _ B s[k] w2 hb2 (Nat.le_trans hBr hw2.size) (by simp only [List.length_append, List.length_cons, List.length_nil] at hlen ⊢; omega))
        have HW2 := hide (show Below B wr w2 from ⟨hw2.os, hw2.tape, hw2.output, hw2.size, hw2.block⟩)
        have HST := hide hst
        clear hk hbr hbel hlen hst hp hn hr2 hb2 hw2
        go_wp2_with (go_at_call 52; refine (C.out _).mono ?_; rintro e w1 ⟨rfl, rfl⟩)
        rename_i k0
        have HKK := hide k0
        clear k0
        go_region_law ((first | (go_simp; go_at_call 53; refine CH.out.mono ?_; rintro e wy ⟨v3, rfl, hb3, hw3⟩; have HB3 := hide hb3; have HW3 := hide hw3; clear hb3 hw3) | (refine step_append_run _ (by rfl) _ _ _ _ rfl _ _ (by rfl) (by rfl) _ _ HR2.out ?_)))
        all_goals
          refine HKK.out _ _ ?_
          go_wp2_with fail
          go_roundw
          case rel => exact ⟨k + 1, by go_num, hide ⟨by omega, by rw [HST.out]; have := HB3.out; simpa using this, (HBL.out.trans HW2.out).trans HW3.out, Nat.le_trans (Nat.le_trans hBr HW2.out.size) HW3.out.size⟩⟩
          case measure => simp [intOf]; omega
      · rw [hp] at C
        have hn : nchT s[k] = [s[k]] := by unfold nchT; rw [hp]; rfl
        rw [hn] at hst
        obtain ⟨v2, w2, hr2, hb2, hw2⟩ := app_b (W := wr) [s[k]] (B := B) hbr hBr (by simp) (by simp only [List.length_singleton]; omega) _ rfl
        have HR2 := hide hr2
        have HB2 := hide hb2
        have HW2 := hide hw2
        have HST := hide hst
        clear hk hbr hbel hlen hst hp hn hr2 hb2 hw2
        go_wp2_with (first | (go_at_call 52; refine (C.out _).mono ?_; rintro e w1 ⟨rfl, rfl⟩) | (at_builtin; refine Lib.wpList_append_run _ rfl _ _ _ _ rfl _ _ rfl rfl _ _ HR2.out ?_))
        go_roundw
        case rel => exact ⟨k + 1, by go_num, hide ⟨by omega, by rw [HST.out]; have := HB2.out; simpa using this, HBL.out.trans HW2.out, Nat.le_trans hBr HW2.out.size⟩⟩
        case measure => simp [intOf]; omega
end Go.Proofs.YtlnkddmpcicejaaDoor
