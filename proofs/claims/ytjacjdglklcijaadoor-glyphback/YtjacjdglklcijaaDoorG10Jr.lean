/-
  What the reference's Join answers.
-/
import Derived.Test.YtjacjdglklcijaaDoorG10Jl
namespace Go.Proofs.YtjacjdglklcijaaDoor
open Go.RowKit Go.Deep
set_option linter.unusedVariables false
set_option linter.unusedSimpArgs false

set_option maxRecDepth 8000 in
set_option maxHeartbeats 4000000 in
theorem rjoin_any (a : Option Addr) (ss : List ByteArray) (n c : Nat) (w : World) (hn : ss.length = n) (hm : n ≤ 1000000) (hg : (jg ss).length ≤ 1048576) (hL : SLst w a ss) :
    Calls Tryd.prog 8 #[.slice a n c] w (JnR w ss) := by
  have hm' : (n : Int) ≤ 1000000 := by omega
  have HN := hide hn
  by_cases h1 : n < 1
  · have h1' : (n : Int) < 1 := by omega
    have HC : Hid (¬ (1 ≤ ss.length ∧ ss.length ≤ 4096)) := hide (by omega)
    clear hn hm hg hL h1
    go_enter Tryd.func8, Tryd.ntmps8
    go_wp2_with fail
    go_ret3
    unfold JnR
    rw [if_neg HC.out]
    exact ⟨rfl, Below.refl _ _⟩
  have h1' : ¬ (n : Int) < 1 := by omega
  by_cases h2 : 4096 < n
  · have h2' : (4096 : Int) < (n : Int) := by omega
    have HC : Hid (¬ (1 ≤ ss.length ∧ ss.length ≤ 4096)) := hide (by omega)
    clear hn hm hg hL h1 h2
    go_enter Tryd.func8, Tryd.ntmps8
    go_wp2_with fail
    go_ret3
    unfold JnR
    rw [if_neg HC.out]
    exact ⟨rfl, Below.refl _ _⟩
  have h2' : ¬ (4096 : Int) < (n : Int) := by omega
  have HC : Hid (1 ≤ ss.length ∧ ss.length ≤ 4096) := hide (by omega)
  have HGS := hide hg
  have HL := hide hL
  have CP := hide (fun (x : Nat) (w : World) (h : x ≤ 1048576) => jfour_any (x : Int) w (by omega) (by omega))
  have CK := hide (fun (s : ByteArray) (w : World) (h : s.size ≤ 1048576) => jpad_any s w (by omega))
  obtain ⟨Z, hZ⟩ : ∃ Z, (jg ss).length = Z := ⟨_, rfl⟩
  have HZ := hide hZ
  have hZ1 : (Z : Int) ≤ 1048576 := by omega
  have HSZ : Hid (∀ k, k < n → (ss.getD k ⟨#[]⟩).size ≤ 1048576 ∧ (jg (ss.take (k + 1))).length = (jg (ss.take k)).length + ((ss.getD k ⟨#[]⟩).size + lck (ss.getD k ⟨#[]⟩).size) ∧ (jg (ss.take (k + 1))).length ≤ 1048576) := hide (fun k hk => by
    have e : (jg (ss.take (k + 1))).length = (jg (ss.take k)).length + ((ss.getD k ⟨#[]⟩).size + lck (ss.getD k ⟨#[]⟩).size) := by
      rw [take_s ss k (by omega), jg_snoc, List.length_append, pdT_len, ← Lib.size_eq]
    have := jg_take ss (k + 1)
    exact ⟨by omega, e, by omega⟩)
  have HCELL : Hid (∀ k, k < n → ∃ b off, a = some ⟨b, off, none⟩ ∧ ∀ x, Below w.heap.size w x → x.cell? ⟨b, off + k, none⟩ = some (.string (ss.getD k ⟨#[]⟩))) := hide (fun k hk => by
    rcases hL with hz | ⟨b, off, h1, h2, h3⟩
    · rw [hz] at hn; simp at hn; omega
    · exact ⟨b, off, h1, fun x hx => by rw [hx.cell (p := ⟨b, off + k, none⟩) h2]; exact h3 k (by omega)⟩)
  clear hn hg hL hZ
  go_enter Tryd.func8, Tryd.ntmps8
  go_wp2_with fail
  go_loop [5, 6] (fun vs vi => ∃ k : Nat, vi = .int .i64 k ∧ vs = .int .i64 (((jg (ss.take k)).length : Nat) : Int) ∧ Hid (k ≤ n)) (fun _ vi => n - (intOf vi).toNat)
  case atStart => exact ⟨0, rfl, rfl, hide (by omega)⟩
  case round =>
    obtain ⟨k, rfl, rfl, HV⟩ := hrel
    have hk := HV.out
    have hk0 : (0 : Int) ≤ (k : Int) := by omega
    clear HV
    by_cases hlt : k < n
    · have hlt' : (k : Int) < (n : Int) := by omega
      obtain ⟨b, off, rfl, hcell⟩ := HCELL.out k hlt
      have hc := hcell w (Below.refl _ _)
      obtain ⟨z1, z2, z3⟩ := HSZ.out k hlt
      have z0 := jg_take ss k
      have z9 := HGS.out
      obtain ⟨L0, hL0⟩ : ∃ L0, (jg (ss.take k)).length = L0 := ⟨_, rfl⟩
      obtain ⟨g, hg⟩ : ∃ g, ss.getD k ⟨#[]⟩ = g := ⟨_, rfl⟩
      rw [hg] at hc z1 z2
      rw [hL0] at z2 z0 ⊢
      have g1 : (g.size : Int) ≤ 1048576 := by omega
      have g2 : ¬ (1048576 : Int) < (g.size : Int) := by omega
      have L1 : (L0 : Int) ≤ 1048576 := by omega
      have L2 : ¬ (1048576 : Int) < (L0 : Int) := by omega
      have hq : ((g.size : Int) + 3) / 4 * 4 = (g.size : Int) + ((lck g.size : Nat) : Int) := by unfold lck; omega
      have Z2 : Hid (((jg (ss.take (k + 1))).length : Int) = (L0 : Int) + ((g.size : Int) + 3) / 4 * 4) := hide (by rw [hq]; omega)
      clear hcell z1 z2 z3 hL0 hg z0 z9 hq
      go_wp2_with fail
      go_round
      case rel => exact ⟨k + 1, by go_num, by rw [Z2.out], hide (by omega)⟩
      case measure => simp [intOf]; omega
    · have hlt' : ¬ (k : Int) < (n : Int) := by omega
      obtain rfl : k = n := by omega
      have eZ : (jg (ss.take k)).length = Z := by rw [List.take_of_length_le (by rw [HN.out]; omega), HZ.out]
      rw [eZ]
      have hz' : ¬ (1048576 : Int) < (Z : Int) := by omega
      clear eZ hlt
      have HB0 : Hid (B2 w w (.slice none 0 0) (.slice none 0 0) [] []) := hide ⟨BRow.nil _ _, BRow.nil _ _, fun k e => by simp [Value.ownBlock] at e, Below.refl _ _⟩
      go_wp2_with fail
      go_loopw [7, 8, 9] (fun v8 v9 vi wr => ∃ j : Nat, vi = .int .i64 j ∧ Hid (j ≤ k ∧ B2 w wr v8 v9 (jl 0 (ss.take j)) (jg (ss.take j)))) (fun _ _ vi _ => k - (intOf vi).toNat)
      case atStart => exact ⟨0, rfl, hide ⟨by omega, HB0.out⟩⟩
      case round =>
        clear HB0
        obtain ⟨v8, hv8⟩ : ∃ v8, v8 = u7 := ⟨_, rfl⟩
        subst hv8
        obtain ⟨v9, hv9⟩ : ∃ v9, v9 = u8 := ⟨_, rfl⟩
        subst hv9
        obtain ⟨j, rfl, HV⟩ := hrel
        obtain ⟨hj, hB⟩ := HV.out
        have hj0 : (0 : Int) ≤ (j : Int) := by omega
        clear HV
        have hjt := jg_take ss j
        obtain ⟨L0, hL0⟩ : ∃ L0, (jg (ss.take j)).length = L0 := ⟨_, rfl⟩
        have hL1 : L0 ≤ 1048576 := by have := HGS.out; omega
        have hjl : (jl 0 (ss.take j)).length ≤ 20000 := by have := jl_len (ss.take j) 0; rw [List.length_take] at this; have := HC.out; omega
        obtain ⟨a9, cap9, hv9⟩ := hB.i2.shape
        rw [hL0] at hv9
        have C1 := hide (fun w => CP.out L0 w hL1)
        obtain ⟨F4, hF4⟩ : ∃ F4 : ByteArray, (⟨(p4 (L0 : Int)).toArray⟩ : ByteArray) = F4 := ⟨_, rfl⟩
        have hF4l : F4.data.toList = p4 (L0 : Int) := by rw [← hF4]
        have hF4s : F4.size = 4 := by rw [← hF4]; rfl
        rw [hF4] at C1
        by_cases hlj : j < k
        case neg =>
          have hlj' : ¬ (j : Int) < (k : Int) := by omega
          obtain rfl : j = k := by omega
          have eT : ss.take j = ss := List.take_of_length_le (by rw [HN.out]; omega)
          rw [eT] at hB hL0 hjl
          have HB := hide hB
          have HL0 := hide hL0
          have HJL := hide hjl
          have HF4 := hide (And.intro hF4l hF4s)
          subst hv9
          clear hB hL0 hjt hjl hlj eT hF4 hF4l hF4s
          go_wp2_with fail
          refine (C1.out _).mono ?_
          rintro e w0 ⟨rfl, hb0⟩
          have hB0 := HB.out.later hb0
          obtain ⟨v', w1, hr1, hg1⟩ := app_s4 F4 hB0.i1 hB0.low.size (by rw [HF4.out.2]; have := HJL.out; omega)
          have hB1 := hB0.grew hg1
          rw [HF4.out.1] at hB1
          have HR1 := hide hr1
          have HLW := hide hB1.low
          have t1 := fun m => BRow.text (w := w1.drewN m) hB1.i1
          have t2 := fun m => BRow.text (w := w1.drewN m) hB1.i2
          have HE : Hid (∀ S1 S2 : ByteArray, S1 = ⟨(jl 0 ss ++ p4 (L0 : Int)).toArray⟩ → S2 = ⟨(jg ss).toArray⟩ → JnR w ss (.returned (.tuple #[.string S1, .string S2, .int .i64 0])) w1) := hide (fun S1 S2 e1 e2 => by
            unfold JnR
            rw [if_pos HC.out, e1, e2, HL0.out]
            exact ⟨rfl, HLW.out⟩)
          obtain ⟨S1, hS1⟩ : ∃ S1 : ByteArray, S1 = ⟨(jl 0 ss ++ p4 (L0 : Int)).toArray⟩ := ⟨_, rfl⟩
          obtain ⟨S2, hS2⟩ : ∃ S2 : ByteArray, S2 = ⟨(jg ss).toArray⟩ := ⟨_, rfl⟩
          rw [← hS1] at t1
          rw [← hS2] at t2
          have HE2 := hide (HE.out S1 S2 hS1 hS2)
          clear hS1 hS2 HE hB1 hb0 hg1 hB0 hr1
          go_wp2_with (at_builtin; refine Lib.wpList_append_run _ rfl _ _ _ _ rfl _ _ rfl rfl _ _ HR1.out ?_)
          rename_i kk1
          have HA := hide kk1
          clear kk1
          go_quiet (fail)
          refine HA.out _ _ ?_
          go_wp2_with fail
          go_ret3
          have h := HE2.out
          unfold JnR at h ⊢
          rw [if_pos HC.out] at h ⊢
          exact ⟨h.1, below_drewN h.2 _⟩
        have hlj' : (j : Int) < (k : Int) := by omega
        obtain ⟨b, off, rfl, hcell⟩ := HCELL.out j hlj
        have HC2 := hide hcell
        obtain ⟨z1, z2, z3⟩ := HSZ.out j hlj
        obtain ⟨g, hg⟩ : ∃ g, ss.getD j ⟨#[]⟩ = g := ⟨_, rfl⟩
        rw [hg] at z1 z2
        have C2 := hide (fun w => CK.out g w z1)
        have e1 : jl 0 (ss.take (j + 1)) = jl 0 (ss.take j) ++ p4 (L0 : Int) := by
          rw [take_s ss j (by rw [HN.out]; exact hlj), jl_snoc, hL0, Nat.zero_add]
        have e2 : jg (ss.take (j + 1)) = jg (ss.take j) ++ pdT g.data.toList := by
          rw [take_s ss j (by rw [HN.out]; exact hlj), hg, jg_snoc]
        have HE1 := hide e1
        have HE2 := hide e2
        have HB := hide hB
        have HG := hide hg
        have g1 : (g.size : Int) ≤ 1048576 := by omega
        have HLG := hide (And.intro hL0 (And.intro hL1 (And.intro z1 hjl)))
        have HF4 := hide (And.intro hF4l hF4s)
        subst hv9
        clear hcell z1 z2 z3 hL0 hg e1 e2 hB hjt hjl hF4 hF4l hF4s
        go_wp2_with fail
        refine (C1.out _).mono ?_
        rintro e w0 ⟨rfl, hb0⟩
        have hB0 := HB.out.later hb0
        obtain ⟨v8', w1, hr1, hg1⟩ := app_s4 F4 hB0.i1 hB0.low.size (by rw [HF4.out.2]; have := HLG.out; omega)
        have hB1 := hB0.grew hg1
        rw [HF4.out.1] at hB1
        have HR1 := hide hr1
        have HB1 := hide hB1
        have hc : w1.cell? ⟨b, off + j, none⟩ = some (.string g) := by rw [← HG.out]; exact HC2.out w1 hB1.low
        clear hr1 hg1 hB0 hB1 hb0 HB
        go_wp2_with (at_builtin; refine Lib.wpList_append_run _ rfl _ _ _ _ rfl _ _ rfl rfl _ _ HR1.out ?_)
        refine (C2.out _).mono ?_
        rintro e wy ⟨q, rfl, hq, hy⟩
        subst wy
        obtain ⟨v9', w2, hr2, hg2⟩ := app_s4 q HB1.out.i2 HB1.out.low.size (by
          rw [HLG.out.1, Lib.size_eq, hq, pdT_len, ← Lib.size_eq]
          have := HLG.out
          have : lck g.size ≤ 3 := by unfold lck; omega
          omega)
        have hB2 := (HB1.out.swap.grew hg2).swap
        rw [hq] at hB2
        have HB2 := hide hB2
        have HR2 := hide hr2
        clear hr2 hg2 hB2 hq hc
        go_wp2_with (at_builtin; refine Lib.wpList_append_run _ rfl _ _ _ _ rfl _ _ rfl rfl _ _ HR2.out ?_)
        go_roundw
        case rel => exact ⟨j + 1, by go_num, hide ⟨by omega, by rw [HE1.out, HE2.out]; exact HB2.out⟩⟩
        case measure => simp [intOf]; omega
end Go.Proofs.YtjacjdglklcijaaDoor
