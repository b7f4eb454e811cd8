/-
  The law's own spoil, walked.
-/
import Derived.Test.YtalmcdbdibpgkaaGreatDoorO5Own
import Derived.Test.YtalmcdbdibpgkaaGreatDoorBA
namespace Go.Proofs.YtalmcdbdibpgkaaGreatDoor
open Go.RowKit Go.Deep
set_option linter.unusedVariables false

abbrev wv (kd : Int) (fl : Bool) (nm : Int) (tx : ByteArray) (ka : Option Addr) (kl kc : Nat) (ia : Option Addr) (n ic : Nat) : Value := .agg #[.int .i64 kd, .bool fl, .int .i64 nm, .string tx, .slice ka kl kc, .slice ia n ic]
abbrev wbox (kd : Int) (fl : Bool) (nm : Int) (tx : ByteArray) (ka : Option Addr) (kl kc : Nat) (ia : Option Addr) (n ic : Nat) : Array Value := #[.int .i64 kd, .bool fl, .int .i64 nm, .string tx, .slice ka kl kc, .slice ia n ic]
def SpIH (S : Nat → Prop) (M : Nat) : Prop := ∀ (T : BT Pay) (kd : Int) (fl : Bool) (nm : Int) (tx : ByteArray) (ka : Option Addr) (kl kc : Nat) (ia : Option Addr) (n ic : Nat) (w : World), fsize T < M → WOb w S T ka kl kc ia n ic → (∀ k, S k → k < w.heap.size) → (∀ k j, S k → w.frozen? ⟨k, j, none⟩ = false) →
  Calls Tryz.prog 19 #[wv kd fl nm tx ka kl kc ia n ic] w fun e w' => e = .returned (.tuple #[]) ∧ Sp S w w'
set_option maxRecDepth 8000 in
set_option maxHeartbeats 4000000 in
theorem spoil_step (S : Nat → Prop) (M : Nat) (ih : SpIH S M) (T : BT Pay) (kd : Int) (fl : Bool) (nm : Int) (tx : ByteArray) (ka : Option Addr) (kl kc : Nat) (ia : Option Addr) (n ic : Nat) (w : World) (hM : fsize T ≤ M) (ho : WOb w S T ka kl kc ia n ic) (hS : ∀ k, S k → k < w.heap.size) (hF : ∀ k j, S k → w.frozen? ⟨k, j, none⟩ = false) :
    Calls Tryz.prog 19 #[wv kd fl nm tx ka kl kc ia n ic] w fun e w' => e = .returned (.tuple #[]) ∧ Sp S w w' := by
  have IH := hide ih
  have HO := hide ho
  have HS := hide hS
  have HF := hide hF
  have hn : (n : Int) ≤ 9223372036854775807 := by have h1 := ho.2.2.1; omega
  have hk : (kl : Int) ≤ 9223372036854775807 := by have h1 := ho.1; omega
  have hn0 : (0 : Int) ≤ (n : Int) := by omega
  obtain ⟨T', b, off, hT1, hT2, hT3, hT4⟩ : ∃ (T' : BT Pay) (b off : Nat), n = flen T' ∧ fsize T' ≤ M ∧ (T' = .nil ∨ ia = some ⟨b, off, none⟩) ∧ WR w S T' b off := by
    rcases ho.2.2.2 with h | ⟨h1, b, off, h2, h3⟩
    · exact ⟨.nil, 0, 0, h, Nat.zero_le _, Or.inl rfl, trivial⟩
    · exact ⟨T, b, off, h1, hM, Or.inr h2, h3⟩
  have HT2 := hide hT2
  have HT1 := hide hT1
  have HT3 := hide hT3
  have HB0 := hide (Sp.of_below (S := S) (w := w) hS ((Below.refl w.heap.size w).alloc (Nat.le_refl _) (.cells (wbox kd fl nm tx ka kl kc ia n ic) 25)))
  have HK0 := hide (Blk.new w (wbox kd fl nm tx ka kl kc ia n ic) 25)
  have HW0 := hide (HB0.out.rows _ _ _ hT4)
  clear ih ho hS hF hM hT1 hT2 hT3 hT4
  have hBS : ¬ S w.heap.size := fun h => by have := HS.out _ h; omega
  go_enter Tryz.func19, Tryz.ntmps19
  go_wp2_with fail
  go_loopw [2] (fun vi wr => ∃ (k : Nat) (U : BT Pay), vi = .int .i64 k ∧ Hid (flen U + k = n ∧ fsize U ≤ M ∧ WR wr S U b (off + k * 6) ∧ Sp S w wr ∧ Blk wr w.heap.size (wbox kd fl nm tx ka kl kc ia n ic) 25)) (fun vi _ => n - (intOf vi).toNat)
  case atStart => exact ⟨0, T', rfl, hide ⟨by have := HT1.out; omega, HT2.out, by simpa using HW0.out, HB0.out, HK0.out⟩⟩
  case round =>
    clear HW0 HB0 HK0
    obtain ⟨k, U, rfl, HV⟩ := hrel
    obtain ⟨hlen, hfz, hwr, hsp, hblk⟩ := HV.out
    have hk0 : (0 : Int) ≤ (k : Int) := by omega
    have s5 := hblk.cell 5
    have e5 : (wbox kd fl nm tx ka kl kc ia n ic)[5]? = some (.slice ia n ic) := rfl
    rw [e5] at s5
    cases U with
    | nil =>
      have hkn : (n : Int) ≤ (k : Int) := by simp [flen] at hlen; omega
      have HSP := hide hsp
      have HBL := hide hblk
      clear HV hlen hfz hwr hsp hblk e5
      go_wp2_with fail
      clear s5
      go_loopw [3] (fun vi wr => ∃ (k : Nat), vi = .int .i64 k ∧ Hid (k ≤ kl ∧ Sp S w wr ∧ Blk wr w.heap.size (wbox kd fl nm tx ka kl kc ia n ic) 25)) (fun vi _ => kl - (intOf vi).toNat)
      case atStart => exact ⟨0, rfl, hide ⟨Nat.zero_le _, HSP.out, HBL.out⟩⟩
      case round =>
        clear HSP HBL
        rename_i wq _
        obtain ⟨i, rfl, HV⟩ := hrel
        obtain ⟨hi, hsp, hblk⟩ := HV.out
        have hi0 : (0 : Int) ≤ (i : Int) := by omega
        have s4 := hblk.cell 4
        have e4 : (wbox kd fl nm tx ka kl kc ia n ic)[4]? = some (.slice ka kl kc) := rfl
        rw [e4] at s4
        have HSP := hide hsp
        have HBL := hide hblk
        clear HV e4
        by_cases hlt : i < kl
        · obtain ⟨kb, ko, rfl, hkb, hks⟩ : ∃ kb ko, ka = some ⟨kb, ko, none⟩ ∧ S kb ∧ ∀ i, i < kl → ∃ s, wr.cell? ⟨kb, ko + i, none⟩ = some (.string s) := by
            rcases hsp.strs _ _ HO.out.2.1 with h | h
            · omega
            · exact h
          obtain ⟨s0, c0⟩ := hks i hlt
          have z0 := hsp.frz kb (ko + i) hkb (HF.out kb (ko + i) hkb)
          have hlt' : (i : Int) < (kl : Int) := by omega
          have HC := hide c0
          have HLT := hide hlt
          clear hsp hblk hks hi hlt
          go_wp2_with fail
          go_roundw
          case rel =>
            refine ⟨i + 1, by go_num, hide ⟨HLT.out, HSP.out.trans (Sp.str hkb HC.out _), ?_⟩⟩
            exact HBL.out.other (by rintro rfl; exact hBS hkb) _ _
          case measure => have := HLT.out; simp [intOf]; omega
        · have hlt' : (kl : Int) ≤ (i : Int) := by omega
          clear hsp hblk hi hlt
          go_wp2_with fail
          go_end0
          exact ⟨rfl, HSP.out⟩
    | node b0 o0 q TT N =>
      have hwr' := hwr
      obtain ⟨⟨hsb, kd', fl', nm', tx', ka', kl', kc', ja, n', jc, h6, h1, h2, h3, h4⟩, hN⟩ := hwr'
      obtain rfl | rfl := HT3.out
      · have := HT1.out; simp [flen] at this hlen; omega
      have hlt : (k : Int) < (n : Int) := by simp [flen] at hlen; omega
      have CI := hide (IH.out TT kd' fl' nm' tx' ka' kl' kc' ja n' jc wr (by simp [fsize] at hfz; omega) ⟨h1, h2, h3, h4⟩ (fun j hj => Nat.lt_of_lt_of_le (HS.out j hj) hsp.size) (fun i j hs => hsp.frz i j hs (HF.out i j hs)))
      obtain ⟨c0, c1, c2, c3, c4, c5⟩ := h6
      have HSP := hide hsp
      have HBL := hide hblk
      have HWR := hide hwr
      have HLN := hide (show flen N + (k + 1) = n ∧ fsize N ≤ M by simp [flen, fsize] at hlen hfz; omega)
      clear HV hlen hfz hwr hsp hblk e5 hN h1 h2 h3 h4
      go_wp2_with fail
      refine CI.out.mono ?_
      rintro e w2 ⟨rfl, hsp2⟩
      have hW2 := hsp2.rows _ _ _ HWR.out
      obtain ⟨⟨_, kd2, fl2, nm2, tx2, ka2, kl2, kc2, ja2, n2, jc2, h6, _, _, _, _⟩, hN⟩ := hW2
      have hBw : w.heap.size < wr.heap.size := HBL.out.lt
      have HBL2 : Hid (Blk w2 w.heap.size (wbox kd fl nm tx ka kl kc (some ⟨b, off, none⟩) n ic) 25) := hide (by
        have := HBL.out
        unfold Blk at this ⊢
        rw [hsp2.block _ hBw hBS]; exact this)
      have HSP2 := hide (HSP.out.trans hsp2)
      have HX := hide h6
      have HN := hide hN
      have zz : ∀ j, w2.frozen? ⟨b, j, none⟩ = false := fun j => HSP2.out.frz b j hsb (HF.out b j hsb)
      have z0 := zz (off + k * 6)
      have z1 := zz (off + k * 6 + 1)
      have z2 := zz (off + k * 6 + 2)
      have z3 := zz (off + k * 6 + 3)
      have z4 := zz (off + k * 6 + 4)
      have z5 := zz (off + k * 6 + 5)
      clear s5 c0 c1 c2 c3 c4 c5
      have s5 := HBL2.out.cell 5
      have e5 : (wbox kd fl nm tx ka kl kc (some ⟨b, off, none⟩) n ic)[5]? = some (.slice (some ⟨b, off, none⟩) n ic) := rfl
      rw [e5] at s5
      obtain ⟨c0, c1, c2, c3, c4, c5⟩ := h6
      clear hsp2 hN zz e5 CI HBL HWR HSP
      go_wp2_with fail
      go_roundw
      case rel =>
        have hfin := Sp.six hsb HX.out
        refine ⟨k + 1, N, by go_num, hide ⟨HLN.out.1, HLN.out.2, ?_, HSP2.out.trans hfin, ?_⟩⟩
        · have := hfin.rows _ _ _ HN.out
          rw [show off + (k + 1) * 6 = off + k * 6 + 6 by omega]
          exact this
        · unfold Blk
          have := HBL2.out
          unfold Blk at this
          exact (sp6_block w2 b (off + k * 6) w.heap.size (by rintro rfl; exact hBS hsb)).trans this
      case measure => simp [intOf]; omega
theorem spoil_core (S : Nat → Prop) : ∀ M, SpIH S M
  | 0 => fun _ _ _ _ _ _ _ _ _ _ _ _ h => absurd h (Nat.not_lt_zero _)
  | M + 1 => fun T kd fl nm tx ka kl kc ia n ic w hM ho hS hF => spoil_step S M (spoil_core S M) T kd fl nm tx ka kl kc ia n ic w (by omega) ho hS hF
end Go.Proofs.YtalmcdbdibpgkaaGreatDoor
