/-
  Joined: G10Jl.
-/
import Derived.BigQuiet
import Derived.Deep.CutRange
import Derived.Deep.QuietTactic
import Derived.Test.YtpdfpbbamnhkfaaGreatDoorV27
namespace Go.Proofs.YtpdfpbbamnhkfaaGreatDoor.G10
open Go.RowKit Go.Deep
set_option linter.unusedVariables false
set_option linter.unusedSimpArgs false
theorem jl_len : ∀ (ss : List ByteArray) (a : Nat), (jl a ss).length = 4 * ss.length
  | [], _ => rfl
  | s :: ss, a => by rw [jl, List.length_append, jl_len ss, List.length_cons]; show 4 + _ = _; omega
def JnR (w : World) (ss : List ByteArray) (e : Ending) (w' : World) : Prop :=
  if 1 ≤ ss.length ∧ ss.length ≤ 4096 then e = .returned (.tuple #[.string ⟨(jl 0 ss ++ p4 (((jg ss).length : Nat) : Int)).toArray⟩, .string ⟨(jg ss).toArray⟩, .int .i64 0]) ∧ Below w.heap.size w w'
  else e = .returned (.tuple #[.string ⟨#[]⟩, .string ⟨#[]⟩, .int .i64 100]) ∧ Below w.heap.size w w'
theorem made_row (x : World) (B m : Nat) (hB : B ≤ x.heap.size) (hm : m ≤ 1000000000) : BRow (x.alloc (.cells (madeCells (Value.int .u8 0).cells m) 5)) B (.slice (some ⟨x.heap.size, 0, none⟩) 0 m) [] := by
  refine ⟨rfl, Or.inr ⟨x.heap.size, m, _, rfl, hB, heap_alloc_new x _, Nat.zero_le _, by unfold maxLen; omega, by rw [size_madeCells]; omega, ?_⟩⟩
  simp
theorem make_bytes (m : Nat) (hm : m ≤ 1000000000) (x : World) : (Instr.makeSlice 128 (.int .i64 0) (.int .i64 (m : Int))).run Tryz.prog x = .ok (.slice (some ⟨x.heap.size, 0, none⟩) 0 m) (x.alloc (.cells (madeCells (Value.int .u8 0).cells m) 5)) := by
  obtain ⟨i0, hi, hz0, hz1, hz2⟩ := info_parts5 info_u8
  have h := run_make (P := Tryz.prog) x 128 5 i0 (.int .u8 0) Tryz.underlying128 hi hz0 .i64 .i64 0 (m : Int) (by omega) (by omega) (by rw [hz2]; omega) (by omega)
  rw [hz1] at h
  simp only [Int.toNat_natCast, Nat.mul_one] at h
  exact h
theorem made_two (w x : World) (m1 m2 : Nat) (hw : Below w.heap.size w x) (h1 : m1 ≤ 1000000000) (h2 : m2 ≤ 1000000000) :
    B2 w ((x.alloc (.cells (madeCells (Value.int .u8 0).cells m1) 5)).alloc (.cells (madeCells (Value.int .u8 0).cells m2) 5)) (.slice (some ⟨x.heap.size, 0, none⟩) 0 m1) (.slice (some ⟨x.heap.size + 1, 0, none⟩) 0 m2) [] [] := by
  have hs : (x.alloc (.cells (madeCells (Value.int .u8 0).cells m1) 5)).heap.size = x.heap.size + 1 := by simp
  have r2 := made_row (x.alloc (.cells (madeCells (Value.int .u8 0).cells m1) 5)) w.heap.size m2 (by rw [hs]; have := hw.size; omega) h2
  rw [hs] at r2
  refine ⟨World.ownsRow.alloc (made_row x w.heap.size m1 hw.size h1) _, r2, fun k e1 e2 => ?_, (hw.alloc hw.size _).alloc (by rw [hs]; have := hw.size; omega) _⟩
  simp [Value.ownBlock] at e1 e2
  omega
set_option maxRecDepth 8000 in
set_option maxHeartbeats 4000000 in
theorem join_any (a : Option Addr) (ss : List ByteArray) (n c : Nat) (w : World) (hn : ss.length = n) (hm : n ≤ 1000000) (hg : (jg ss).length ≤ 1048576) (hL : SLst w a ss) :
    Calls Tryz.prog 47 #[.slice a n c] w (JnR w ss) := by
  have hm' : (n : Int) ≤ 1000000 := by omega
  have HN := hide hn
  by_cases h1 : n < 1
  · have h1' : (n : Int) < 1 := by omega
    have HC : Hid (¬ (1 ≤ ss.length ∧ ss.length ≤ 4096)) := hide (by omega)
    clear hn hm hg hL h1
    go_enter Tryz.func47, Tryz.ntmps47
    go_wp2_with fail
    go_ret3
    unfold JnR
    rw [if_neg HC.out]
    exact ⟨rfl, Below.refl _ _⟩
  have h1' : ¬ (n : Int) < 1 := by omega
  by_cases h2 : 4096 < n
  · have h2' : (4096 : Int) < (n : Int) := by omega
    have HC : Hid (¬ (1 ≤ ss.length ∧ ss.length ≤ 4096)) := hide (by omega)
    clear hn hm hg hL h1 h2
    go_enter Tryz.func47, Tryz.ntmps47
    go_wp2_with fail
    go_ret3
    unfold JnR
    rw [if_neg HC.out]
    exact ⟨rfl, Below.refl _ _⟩
  have h2' : ¬ (4096 : Int) < (n : Int) := by omega
  have HC : Hid (1 ≤ ss.length ∧ ss.length ≤ 4096) := hide (by omega)
  have HGS := hide hg
  have HL := hide hL
  have CK := hide (fun (m : Nat) (w : World) (h : m ≤ 1000000000) => lack_any m w h)
  have CP := hide (fun v ys x B w hx h hB hl => place_any v ys x B w hx h hB hl)
  obtain ⟨Z, hZ⟩ : ∃ Z, (jg ss).length = Z := ⟨_, rfl⟩
  have HZ := hide hZ
  have hZ1 : (Z : Int) ≤ 1048576 := by omega
  have HSZ : Hid (∀ k, k < n → (ss.getD k ⟨#[]⟩).size ≤ 1048576 ∧ (jg (ss.take (k + 1))).length = (jg (ss.take k)).length + ((ss.getD k ⟨#[]⟩).size + lck (ss.getD k ⟨#[]⟩).size) ∧ (jg (ss.take (k + 1))).length ≤ 1048576) := hide (fun k hk => by
    have e : (jg (ss.take (k + 1))).length = (jg (ss.take k)).length + ((ss.getD k ⟨#[]⟩).size + lck (ss.getD k ⟨#[]⟩).size) := by
      rw [take_s ss k (by omega), jg_snoc, List.length_append, pdT_len, ← Lib.size_eq]
    have := jg_take ss (k + 1)
    exact ⟨by omega, e, by omega⟩)
  have HCELL : Hid (∀ k, k < n → ∃ b off, a = some ⟨b, off, none⟩ ∧ ∀ x, Below w.heap.size w x → x.cell? ⟨b, off + k, none⟩ = some (.string (ss.getD k ⟨#[]⟩))) := hide (fun k hk => by
    rcases hL with hz | ⟨b, off, h1, h2, h3⟩
    · rw [hz] at hn; simp at hn; omega
    · exact ⟨b, off, h1, fun x hx => by rw [hx.cell (p := ⟨b, off + k, none⟩) h2]; exact h3 k (by omega)⟩)
  clear hn hg hL hZ
  go_enter Tryz.func47, Tryz.ntmps47
  go_wp2_with fail
  go_loop [5, 22] (fun vs vi => ∃ k : Nat, vi = .int .i64 k ∧ vs = .int .i64 (((jg (ss.take k)).length : Nat) : Int) ∧ Hid (k ≤ n)) (fun _ vi => n - (intOf vi).toNat)
  case atStart => exact ⟨0, rfl, rfl, hide (by omega)⟩
  case round =>
    obtain ⟨k, rfl, rfl, HV⟩ := hrel
    have hk := HV.out
    have hk0 : (0 : Int) ≤ (k : Int) := by omega
    clear HV
    by_cases hlt : k < n
    · have hlt' : (k : Int) < (n : Int) := by omega
      obtain ⟨b, off, rfl, hcell⟩ := HCELL.out k hlt
      have hc := hcell w (Below.refl _ _)
      obtain ⟨z1, z2, z3⟩ := HSZ.out k hlt
      obtain ⟨L0, hL0⟩ : ∃ L0, (jg (ss.take k)).length = L0 := ⟨_, rfl⟩
      obtain ⟨g, hg⟩ : ∃ g, ss.getD k ⟨#[]⟩ = g := ⟨_, rfl⟩
      rw [hg] at hc z1 z2
      rw [hL0] at z2 ⊢
      have C1 := hide (fun w => CK.out g.size w (by omega))
      have l0 : (0 : Int) ≤ ((lck g.size : Nat) : Int) := by omega
      have l1 : ((lck g.size : Nat) : Int) ≤ 3 := by unfold lck; omega
      have g1 : (g.size : Int) ≤ 1048576 := by omega
      have L1 : (L0 : Int) ≤ 1048576 := by omega
      have Z2 := hide z2
      clear hcell z1 z2 z3 hL0 hg
      generalize hlk : lck g.size = lk at C1 l0 l1 Z2
      clear hlk
      go_wp2_with (go_at_call 87; refine (C1.out _).mono ?_; rintro e wy ⟨rfl, hy⟩; subst wy)
      go_round
      case rel => exact ⟨k + 1, by go_num, by rw [Z2.out]; congr 1, hide (by omega)⟩
      case measure => simp [intOf]; omega
    · have hlt' : ¬ (k : Int) < (n : Int) := by omega
      obtain rfl : k = n := by omega
      have eZ : (jg (ss.take k)).length = Z := by rw [List.take_of_length_le (by rw [HN.out]; omega), HZ.out]
      rw [eZ]
      have hz' : ¬ (1048576 : Int) < (Z : Int) := by omega
      obtain ⟨M1, hM1⟩ : ∃ M1 : Nat, M1 = 4 * (k + 1) := ⟨_, rfl⟩
      have hM1' : (4 : Int) * ((k : Int) + 1) = (M1 : Int) := by omega
      have hw1 : IntKind.i64.wrap ((k : Int) + 1) = (k : Int) + 1 := by rw [IntKind.wrap_i64]; omega
      have hw2 : IntKind.i64.wrap (M1 : Int) = (M1 : Int) := by rw [IntKind.wrap_i64]; omega
      have mk1 := fun x => make_bytes M1 (by omega) x
      have mk2 := fun x => make_bytes Z (by omega) x
      have HT1 := hide (fun (x : World) (hx : Below w.heap.size w x) => made_two w x M1 Z hx (by omega) (by omega))
      have HT2 := hide (fun (x : World) (hx : Below w.heap.size w x) => (made_two w x Z M1 hx (by omega) (by omega)).swap)
      generalize madeCells (Value.int .u8 0).cells M1 = MA at mk1 HT1 HT2
      generalize madeCells (Value.int .u8 0).cells Z = MB at mk2 HT1 HT2
      clear eZ hlt hM1
      go_upto_region 11 with (fail)
      go_cut [8, 9] from 37 to 43 (fun s8 s9 wc => Hid (B2 w wc s8 s9 [] []))
      case first =>
        go_region
        all_goals
          go_wp2_with fail
          go_meet
          first | exact hide (HT1.out _ (Below.refl _ _).drew) | exact hide (HT2.out _ (Below.refl _ _).drew)
      case rest =>
        have HB0 := hcut
        clear hcut mk1 mk2 HT1 HT2 hw1 hw2 hM1'
        go_wp2_with fail
        go_loopw [8, 9, 46] (fun v8 v9 vi wr => ∃ j : Nat, vi = .int .i64 j ∧ Hid (j ≤ k ∧ B2 w wr v8 v9 (jl 0 (ss.take j)) (jg (ss.take j)))) (fun _ _ vi _ => k - (intOf vi).toNat)
        case atStart => exact ⟨0, rfl, hide ⟨by omega, HB0.out⟩⟩
        case round =>
          clear HB0
          obtain ⟨v8, hv8⟩ : ∃ v8, v8 = u8 := ⟨_, rfl⟩
          subst hv8
          obtain ⟨v9, hv9⟩ : ∃ v9, v9 = u9 := ⟨_, rfl⟩
          subst hv9
          obtain ⟨j, rfl, HV⟩ := hrel
          obtain ⟨hj, hB⟩ := HV.out
          have hj0 : (0 : Int) ≤ (j : Int) := by omega
          clear HV
          have hjt := jg_take ss j
          obtain ⟨L0, hL0⟩ : ∃ L0, (jg (ss.take j)).length = L0 := ⟨_, rfl⟩
          have hL1 : L0 ≤ 1048576 := by have := HGS.out; omega
          have hjl : (jl 0 (ss.take j)).length ≤ 20000 := by have := jl_len (ss.take j) 0; rw [List.length_take] at this; have := HC.out; omega
          obtain ⟨a9, cap9, hv9⟩ := hB.i2.shape
          rw [hL0] at hv9
          have C1 := hide (CP.out v8 _ L0 w.heap.size wr (by omega) hB.i1 hB.low.size (by omega))
          by_cases hlj : j < k
          case neg =>
            have hlj' : ¬ (j : Int) < (k : Int) := by omega
            obtain rfl : j = k := by omega
            have eT : ss.take j = ss := List.take_of_length_le (by rw [HN.out]; omega)
            rw [eT] at hB C1 hL0
            have HB := hide hB
            have HL0 := hide hL0
            subst hv9
            clear hB hL0 hjt hjl hlj eT
            go_wp2_with fail
            refine C1.out.mono ?_
            rintro e w1 ⟨v', W1, rfl, hb1, hg1⟩
            have hB1 := (HB.out.later hb1).grew hg1
            have HLW := hide hB1.low
            have t1 := fun m => BRow.text (w := w1.drewN m) hB1.i1
            have t2 := fun m => BRow.text (w := w1.drewN m) hB1.i2
            have HE : Hid (∀ S1 S2 : ByteArray, S1 = ⟨(jl 0 ss ++ p4 (L0 : Int)).toArray⟩ → S2 = ⟨(jg ss).toArray⟩ → JnR w ss (.returned (.tuple #[.string S1, .string S2, .int .i64 0])) w1) := hide (fun S1 S2 e1 e2 => by
              unfold JnR
              rw [if_pos HC.out, e1, e2, HL0.out]
              exact ⟨rfl, HLW.out⟩)
            obtain ⟨S1, hS1⟩ : ∃ S1 : ByteArray, S1 = ⟨(jl 0 ss ++ p4 (L0 : Int)).toArray⟩ := ⟨_, rfl⟩
            obtain ⟨S2, hS2⟩ : ∃ S2 : ByteArray, S2 = ⟨(jg ss).toArray⟩ := ⟨_, rfl⟩
            rw [← hS1] at t1
            rw [← hS2] at t2
            have HE2 := hide (HE.out S1 S2 hS1 hS2)
            clear hS1 hS2 HE hB1 hb1 hg1
            go_wp2_with fail
            rename_i kk1
            have HA := hide kk1
            clear kk1
            go_quiet (fail)
            refine HA.out _ _ ?_
            go_wp2_with fail
            go_ret3
            have h := HE2.out
            unfold JnR at h ⊢
            rw [if_pos HC.out] at h ⊢
            exact ⟨h.1, below_drewN h.2 _⟩
          have hlj' : (j : Int) < (k : Int) := by omega
          obtain ⟨b, off, rfl, hcell⟩ := HCELL.out j hlj
          have hc := hcell wr hB.low
          obtain ⟨z1, z2, z3⟩ := HSZ.out j hlj
          obtain ⟨g, hg⟩ : ∃ g, ss.getD j ⟨#[]⟩ = g := ⟨_, rfl⟩
          rw [hg] at hc z1 z2
          have C2 := hide (fun w => CK.out g.size w (by omega))
          have l1 : lck g.size ≤ 3 := by unfold lck; omega
          have e1 : jl 0 (ss.take (j + 1)) = jl 0 (ss.take j) ++ p4 (L0 : Int) := by
            rw [take_s ss j (by rw [HN.out]; exact hlj), jl_snoc, hL0, Nat.zero_add]
          have e2 : jg (ss.take (j + 1)) = jg (ss.take j) ++ g.data.toList ++ List.replicate (lck g.size) 0 := by
            rw [take_s ss j (by rw [HN.out]; exact hlj), hg, jg_snoc]
            unfold pdT
            rw [← Lib.size_eq, List.append_assoc]
          have HE1 := hide e1
          have HE2 := hide e2
          have HB := hide hB
          have g1 : (g.size : Int) ≤ 1048576 := by omega
          have HLG := hide (And.intro hL0 (And.intro hL1 (And.intro z1 l1)))
          subst hv9
          generalize hlk : lck g.size = lk at C2 l1 HE2 HLG
          clear hcell z1 z2 z3 hL0 hg e1 e2 hB hjt hjl hlk
          go_wp2_with fail
          refine C1.out.mono ?_
          rintro e w1 ⟨v8', W1, rfl, hb1, hg1⟩
          have hB1 := (HB.out.later hb1).grew hg1
          obtain ⟨v9a, w2, hr2, hg2⟩ := app_s4 g hB1.i2 hB1.low.size (by rw [HLG.out.1]; have := HLG.out; omega)
          have hB2 := hB1.swap.grew hg2
          obtain ⟨v9b, w3, hr3, hg3⟩ := app_z4 lk hB2.i1 hB2.low.size l1 (by rw [List.length_append, HLG.out.1, ← Lib.size_eq]; have := HLG.out; omega)
          have HB3 := hide (hB2.grew hg3).swap
          have HR2 := hide hr2
          have HR3 := hide hr3
          clear hr2 hr3 hg2 hg3 hB1 hB2 hb1 hg1 hc HB C1
          go_wp2_with (at_builtin; first | (refine Lib.wpList_append_run _ rfl _ _ _ _ rfl _ _ rfl rfl _ _ HR2.out ?_; clear HR2) | (refine Lib.wpList_append_run _ rfl _ _ _ _ rfl _ _ rfl rfl _ _ HR3.out ?_; clear HR3))
          refine (C2.out _).mono ?_
          rintro e wy ⟨rfl, hy⟩
          subst wy
          go_wp2_with (at_builtin; first | (refine Lib.wpList_append_run _ rfl _ _ _ _ rfl _ _ rfl rfl _ _ HR2.out ?_; clear HR2) | (refine Lib.wpList_append_run _ rfl _ _ _ _ rfl _ _ rfl rfl _ _ HR3.out ?_; clear HR3))
          go_roundw
          case rel => exact ⟨j + 1, by go_num, hide ⟨by omega, by rw [HE1.out, HE2.out]; exact HB3.out⟩⟩
          case measure => simp [intOf]; omega
end Go.Proofs.YtpdfpbbamnhkfaaGreatDoor.G10
