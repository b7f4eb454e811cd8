/-
  The law's own large: it answers a number, and turns nothing.
-/
import Derived.Test.YtcgoklacjniemaaGreatDoorO5Sub
namespace Go.Proofs.YtcgoklacjniemaaGreatDoor
open Go.RowKit Go.Deep

set_option maxHeartbeats 4000000 in
theorem large_step (M : Nat)
    (ih : ∀ (p : Pay) (T : BT Pay) (ka : Option Addr) (kc : Nat) (ia : Option Addr) (ic : Nat) (nest n : Int) (w : World), fsize T < M → OIn w p T ka kc ia ic →
      Calls Tryz.prog 23 #[ov p ka kc ia (flen T) ic, .int .i64 nest, .int .i64 n] w fun e w' => (∃ r : Int, e = .returned (.int .i64 r)) ∧ Below w.heap.size w w')
    (p : Pay) (T : BT Pay) (ka : Option Addr) (kc : Nat) (ia : Option Addr) (ic : Nat) (nest n : Int) (w : World) (hM : fsize T ≤ M) (hin : OIn w p T ka kc ia ic) :
      Calls Tryz.prog 23 #[ov p ka kc ia (flen T) ic, .int .i64 nest, .int .i64 n] w fun e w' => (∃ r : Int, e = .returned (.int .i64 r)) ∧ Below w.heap.size w w' := by
  have IH := hide ih
  have HI := hide hin
  have HM := hide hM
  have hl1 : (flen T : Int) ≤ 9223372036854775807 := by have h := hin.2.2.1; have h' := hin.2.2.2.1; omega
  have hl0 : (0 : Int) ≤ (flen T : Int) := by omega
  have hl3 : (p.keys.length : Int) ≤ 9223372036854775807 := by have h := hin.2.1.2.1; have h' := hin.2.1.2.2; omega
  have hS := six_box w p ka kc ia (flen T) ic 25
  have HS := hide hS
  clear ih hin hM hS
  go_enter Tryz.func23, Tryz.ntmps23
  go_wp2_with fail
  any_goals (go_ret; exact ⟨⟨_, rfl⟩, (Below.refl _ _).alloc (Nat.le_refl _) _⟩)
  have HB := hide ((Below.refl w.heap.size w).alloc (Nat.le_refl _) (.cells #[.int .i64 p.kind, .bool p.flag, .int .i64 p.num, .string p.text, .slice ka p.keys.length kc, .slice ia (flen T) ic] 25))
  have hsz : w.heap.size < (w.alloc (.cells #[.int .i64 p.kind, .bool p.flag, .int .i64 p.num, .string p.text, .slice ka p.keys.length kc, .slice ia (flen T) ic] 25)).heap.size := by simp
  rename_i hx1 hx2 _ _
  clear hx1 hx2
  go_loopw [7, 8] (fun vn vi wr => ∃ (m : Int) (i : Nat), vn = .int .i64 m ∧ vi = .int .i64 i ∧ Hid (i ≤ p.keys.length ∧ Below w.heap.size w wr ∧ Six wr w.heap.size 0 p ka kc ia (flen T) ic ∧ w.heap.size < wr.heap.size)) (fun _ vi _ => p.keys.length - (intOf vi).toNat)
  case atStart => exact ⟨_, 0, rfl, rfl, hide ⟨Nat.zero_le _, HB.out, HS.out, hsz⟩⟩
  case round =>
    clear HB HS hsz
    obtain ⟨m, i, rfl, rfl, HV⟩ := hrel
    obtain ⟨hi, hbel, h6, hsz⟩ := HV.out
    clear HV
    have HB := hide hbel
    have H6 := hide h6
    obtain ⟨s0, s1, s2, s3, s4, s5⟩ := h6
    simp only [Nat.zero_add] at s1 s2 s3 s4 s5
    have hi0 : (0 : Int) ≤ (i : Int) := by omega
    by_cases hlt : i < p.keys.length
    case pos =>
      obtain ⟨b, off, rfl, hb, hc⟩ := HI.out.2.1.1.get5 hlt
      have c1 := (hbel.cell (p := ⟨b, off + i, none⟩) hb).trans hc
      have hlt1 : (i : Int) < (p.keys.length : Int) := by omega
      generalize p.keys.getD i ByteArray.empty = x at c1
      have HLT := hide hlt
      clear hc hbel hlt hi
      go_wp2_with fail
      go_roundw
      case rel => exact ⟨_, i + 1, rfl, by go_num, hide ⟨HLT.out, HB.out, H6.out, hsz⟩⟩
      case measure => have := HLT.out; simp [intOf]; omega
    case neg =>
      clear hbel hi
      go_wp2_with fail
      clear s0 s1 s2 s3 s4 s5
      obtain ⟨b, off, hia, hrows⟩ := OIn.at_ HI.out
      have HR := hide hrows
      have HIA := hide hia
      clear hrows hia
      go_loopw [7, 9] (fun vn vi wr => ∃ (m : Int) (k : Nat) (U : BT Pay), vn = .int .i64 m ∧ vi = .int .i64 k ∧ Hid (flen U + k = flen T ∧ fsize U ≤ fsize T ∧ Rows w U b (off + k * 6) ∧ Below w.heap.size w wr ∧ Six wr w.heap.size 0 p ka kc ia (flen T) ic ∧ w.heap.size < wr.heap.size)) (fun _ vi _ => flen T - (intOf vi).toNat)
      case atStart => exact ⟨_, 0, T, rfl, rfl, hide ⟨by omega, Nat.le_refl _, by simpa using HR.out, HB.out, H6.out, hsz⟩⟩
      case round =>
        clear HB H6 hsz HR
        obtain ⟨m, k, U, rfl, rfl, HV⟩ := hrel
        obtain ⟨hk, hu, hrow, hbel, h6, hsz⟩ := HV.out
        clear HV
        have HB := hide hbel
        have H6 := hide h6
        obtain ⟨s0, s1, s2, s3, s4, s5⟩ := h6
        simp only [Nat.zero_add] at s1 s2 s3 s4 s5
        have hm : 0 ≤ m ∨ m < 0 := by omega
        cases U with
        | nil =>
          have hk' : (flen T : Int) ≤ (k : Int) := by simp [flen] at hk; omega
          clear hk hrow hbel hm
          go_wp2_with fail
          go_ret
          exact ⟨⟨_, rfl⟩, HB.out⟩
        | node b0 o0 q TT N =>
          obtain ⟨⟨ka', kc', ia', ic', g6, gin⟩, grest⟩ := rows_node.1 hrow
          obtain rfl | ⟨rfl, hbz⟩ := HIA.out
          · simp [flen] at hk
          have hlt : (k : Int) < (flen T : Int) := by simp [flen] at hk; omega
          have hk0 : (0 : Int) ≤ (k : Int) := by omega
          have hst : fsize TT < M := by have := HM.out; simp [fsize] at hu; omega
          have CI := fun nest => IH.out q TT ka' kc' ia' ic' nest m wr hst (gin.below hbel)
          obtain ⟨c0, c1, c2, c3, c4, c5⟩ := g6.below hbz hbel
          have CI := hide CI
          have HK := hide (show flen N + (k + 1) = flen T ∧ fsize N ≤ fsize T by simp [flen, fsize] at hk hu; omega)
          have HRR := hide grest
          clear hk hu hrow hbel g6 gin grest
          rcases hm with hm | hm
          · go_wp2_with (go_at_call 23; refine (CI.out _).mono ?_; rintro e wy ⟨⟨r, rfl⟩, hy⟩)
            go_roundw
            case rel => exact ⟨r, k + 1, N, rfl, by go_num, hide ⟨HK.out.1, HK.out.2, by have := HRR.out; rw [show off + (k + 1) * 6 = off + k * 6 + 6 by omega]; exact this, below_t5 HB.out hy, H6.out.below hsz hy, Nat.lt_of_lt_of_le hsz hy.size⟩⟩
            case measure => simp [intOf]; omega
          · go_wp2_with fail
            go_ret
            exact ⟨⟨_, rfl⟩, HB.out⟩
theorem large_core : ∀ (M : Nat) (p : Pay) (T : BT Pay) (ka : Option Addr) (kc : Nat) (ia : Option Addr) (ic : Nat) (nest n : Int) (w : World), fsize T < M → OIn w p T ka kc ia ic →
      Calls Tryz.prog 23 #[ov p ka kc ia (flen T) ic, .int .i64 nest, .int .i64 n] w fun e w' => (∃ r : Int, e = .returned (.int .i64 r)) ∧ Below w.heap.size w w'
  | 0 => fun _ _ _ _ _ _ _ _ _ h => absurd h (Nat.not_lt_zero _)
  | M + 1 => fun p T ka kc ia ic nest n w hM hin => large_step M (large_core M) p T ka kc ia ic nest n w (by omega) hin
theorem large_any (p : Pay) (T : BT Pay) (ka : Option Addr) (kc : Nat) (ia : Option Addr) (ic : Nat) (w : World) (hin : OIn w p T ka kc ia ic) :
    Calls Tryz.prog 9 #[ov p ka kc ia (flen T) ic] w fun e w' => (∃ r : Bool, e = .returned (.bool r)) ∧ Below w.heap.size w w' := by
  have C := hide (fun nest n w' h => large_core (fsize T + 1) p T ka kc ia ic nest n w' (Nat.lt_succ_self _) (OIn.below (w := w) (w' := w') h hin))
  clear hin
  go_enter Tryz.func9, Tryz.ntmps9
  go_wp2_with (go_at_call 23; refine (C.out _ _ _ ((Below.refl _ _).alloc (Nat.le_refl _) _)).mono ?_; rintro e wy ⟨⟨r, rfl⟩, hy⟩)
  all_goals
    go_ret
    exact ⟨⟨_, rfl⟩, below_t5 ((Below.refl _ _).alloc (Nat.le_refl _) _) hy⟩
end Go.Proofs.YtcgoklacjniemaaGreatDoor
