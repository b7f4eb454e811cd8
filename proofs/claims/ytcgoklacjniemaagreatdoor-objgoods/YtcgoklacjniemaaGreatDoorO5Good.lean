/-
  What the reference's good (chapter 5) answers.
-/
import Derived.Test.YtcgoklacjniemaaGreatDoorO5Sub
namespace Go.Proofs.YtcgoklacjniemaaGreatDoor
open Go.RowKit Go.Deep

def FlatC : Prop := ∀ (p : Pay) (T : BT Pay) (ka : Option Addr) (kc : Nat) (ia : Option Addr) (ic : Nat) (w : World), OIn w p T ka kc ia ic →
  Calls Tryz.prog 65 #[ov p ka kc ia (flen T) ic] w fun e w' => e = .returned (.bool (flatV p (flen T))) ∧ Below w.heap.size w w'

set_option maxHeartbeats 4000000 in
theorem good_step (CF : FlatC) (M : Nat)
    (ih : ∀ (p : Pay) (T : BT Pay) (ka : Option Addr) (kc : Nat) (ia : Option Addr) (ic : Nat) (nest n : Int) (w : World), fsize T < M → OIn w p T ka kc ia ic → 0 ≤ nest → nest ≤ 32 → 0 ≤ n → n ≤ 65536 →
      Calls Tryz.prog 35 #[ov p ka kc ia (flen T) ic, .int .i64 nest, .int .i64 n] w fun e w' => e = .returned (.int .i64 (goodV p T nest n)) ∧ Below w.heap.size w w')
    (p : Pay) (T : BT Pay) (ka : Option Addr) (kc : Nat) (ia : Option Addr) (ic : Nat) (nest n : Int) (w : World) (hM : fsize T ≤ M) (hin : OIn w p T ka kc ia ic) (hn0 : 0 ≤ nest) (hn1 : nest ≤ 32) (h0 : 0 ≤ n) (h1 : n ≤ 65536) :
      Calls Tryz.prog 35 #[ov p ka kc ia (flen T) ic, .int .i64 nest, .int .i64 n] w fun e w' => e = .returned (.int .i64 (goodV p T nest n)) ∧ Below w.heap.size w w' := by
  have IH := hide ih
  have HI := hide hin
  have C := fun w' h => CF p T ka kc ia ic w' (OIn.below (w := w) (w' := w') h hin)
  obtain ⟨hR⟩ : Nonempty (∃ R, goodV p T nest n = R) := ⟨⟨_, rfl⟩⟩
  obtain ⟨R, hR⟩ := hR
  rw [hR]
  have hl1 : (flen T : Int) ≤ 9223372036854775807 := by have h := hin.2.2.1; have h' := hin.2.2.2.1; omega
  unfold goodV gV at hR
  have HM := hide hM
  generalize hf : flatV p (flen T) = f at C hR
  have C := hide C
  have HB : Hid (∃ x, x = w ∧ Below w.heap.size w x) := hide ⟨w, rfl, Below.refl _ _⟩
  clear ih hin hM CF hf HB
  have hl0 : (0 : Int) ≤ (flen T : Int) := by omega
  by_cases hbig : n = 65536
  · subst hbig
    rw [if_pos (by left; omega)] at hR
    subst hR
    go_enter Tryz.func35, Tryz.ntmps35
    go_wp2_with fail
    go_ret
    exact ⟨rfl, (Below.refl _ _).alloc (Nat.le_refl _) _⟩
  have hn : (n + 1 : Int) ≤ 65536 := by omega
  cases f
  · rw [if_pos (by right; rfl)] at hR
    subst hR
    go_enter Tryz.func35, Tryz.ntmps35
    go_wp2_with (go_at_call 65; refine (C.out _ ((Below.refl _ _).alloc (Nat.le_refl _) _)).mono ?_; rintro e wz ⟨rfl, hz⟩)
    go_ret
    exact ⟨rfl, below_t5 ((Below.refl _ _).alloc (Nat.le_refl _) _) hz⟩
  rw [if_neg (by rintro (h | h); omega; cases h)] at hR
  have key : ∀ nest' : Int, 0 ≤ nest' → nest' ≤ 32 → (cont p = true ∧ nest' = nest + 1 ∨ cont p = false ∧ nest' = nest) → goodF T nest' (n + 1) = R → 
      Calls Tryz.prog 35 #[ov p ka kc ia (flen T) ic, .int .i64 nest, .int .i64 n] w fun e w' => e = .returned (.int .i64 R) ∧ Below w.heap.size w w' := by
    intro nest' hq0 hq1 hq hG
    obtain ⟨NQ, hNQ⟩ : ∃ NQ, NQ = nest' := ⟨_, rfl⟩
    have HQ : Hid (0 ≤ NQ ∧ NQ ≤ 32 ∧ goodF T NQ (n + 1) = R) := hide ⟨by omega, by omega, by rw [hNQ]; exact hG⟩
    have HO := hide (OIn.at_ HI.out)
    have hc : (p.kind == 6 || p.kind == 7) = true ∧ nest' = nest + 1 ∨ (p.kind == 6 || p.kind == 7) = false ∧ nest' = nest := hq
    clear hR hG hq HI
    go_enter Tryz.func35, Tryz.ntmps35
    have hc : ((p.kind == 6) = true ∧ nest' = nest + 1) ∨ (((p.kind == 6) = false ∧ (p.kind == 7) = true) ∧ nest' = nest + 1) ∨ ((p.kind == 6) = false ∧ (p.kind == 7) = false) ∧ nest' = nest := by
      cases h6 : (p.kind == 6) <;> cases h7 : (p.kind == 7) <;> simp [h6, h7] at hc ⊢ <;> exact hc
    rcases hc with ⟨hc, rfl⟩ | ⟨⟨hc6, hc7⟩, rfl⟩ | ⟨⟨hc6, hc7⟩, rfl⟩
    all_goals
      have HN := hide hNQ
      clear hNQ
      go_wp2_with (go_at_call 65; refine (C.out _ ((Below.refl _ _).alloc (Nat.le_refl _) _)).mono ?_; rintro e wz ⟨rfl, hz⟩; obtain ⟨s0, s1, s2, s3, s4, s5⟩ := (six_box w p ka kc ia (flen T) ic 25).below (by simp) hz; have HZ := hide hz; clear hz)
    all_goals
      obtain ⟨b, off, hia, hrows⟩ := HO.out
      have HS := hide ((six_box w p ka kc ia (flen T) ic 25).below (by simp) HZ.out)
      have HB := hide (below_t5 ((Below.refl _ _).alloc (Nat.le_refl _) _) HZ.out)
      have hsz : w.heap.size < wz.heap.size := by have := HZ.out.size; simp at this; omega
      have HR := hide hrows
      have HIA := hide hia
      clear hrows hia s0 s1 s2 s3 s4 s5 HZ HO
      go_loopw [7, 8] (fun vn vi wr => ∃ (k : Nat) (m : Int) (U : BT Pay), vn = .int .i64 m ∧ vi = .int .i64 k ∧ Hid (flen U + k = flen T ∧ fsize U ≤ fsize T ∧ Rows w U b (off + k * 6) ∧ 0 ≤ m ∧ m ≤ 65536 ∧ goodF U NQ m = R ∧ Below w.heap.size w wr ∧ Six wr w.heap.size 0 p ka kc ia (flen T) ic ∧ w.heap.size < wr.heap.size)) (fun _ vi _ => flen T - (intOf vi).toNat)
      case atStart => exact ⟨0, n + 1, T, rfl, rfl, hide ⟨by omega, Nat.le_refl _, by simpa using HR.out, by omega, by omega, HQ.out.2.2, HB.out, HS.out, hsz⟩⟩
      case round =>
        clear HB HS hsz HR
        obtain ⟨k, m, U, rfl, rfl, HV⟩ := hrel
        obtain ⟨hk, hu, hrow, hm0, hm1, hg, hbel, h6, hsz⟩ := HV.out
        clear HV
        have HB := hide hbel
        have H6 := hide h6
        obtain ⟨s0, s1, s2, s3, s4, s5⟩ := h6
        simp only [Nat.zero_add] at s1 s2 s3 s4 s5
        cases U with
        | nil =>
          have hk' : (flen T : Int) ≤ (k : Int) := by simp [flen] at hk; omega
          have HGG := hide hg
          clear hk hrow hg hbel
          go_wp2_with fail
          go_ret
          have hmR : m = R := HGG.out
          subst hmR
          exact ⟨rfl, HB.out⟩
        | node b0 o0 q TT N =>
          obtain ⟨⟨ka', kc', ia', ic', g6, gin⟩, grest⟩ := rows_node.1 hrow
          obtain rfl | ⟨rfl, hbz⟩ := HIA.out
          · simp [flen] at hk
          have hlt : (k : Int) < (flen T : Int) := by simp [flen] at hk; omega
          have hk0 : (0 : Int) ≤ (k : Int) := by omega
          have hst : fsize TT < M := by have := HM.out; simp [fsize] at hu; omega
          have CI := IH.out q TT ka' kc' ia' ic' NQ m wr hst (gin.below hbel) HQ.out.1 HQ.out.2.1 hm0 hm1
          obtain ⟨c0, c1, c2, c3, c4, c5⟩ := g6.below hbz hbel
          have hle := goodV_le q TT NQ m hm0 hm1
          rw [goodF_node] at hg
          generalize goodV q TT NQ m = r at CI hg hle
          rw [HN.out] at CI
          have CI := hide CI
          have HGG := hide hg
          have HK := hide (show flen N + (k + 1) = flen T ∧ fsize N ≤ fsize T by simp [flen, fsize] at hk hu; omega)
          have HRR := hide grest
          clear hk hu hrow hg hbel g6 gin grest
          by_cases hr : r < 0
          · go_wp2_with (go_at_call 35; refine CI.out.mono ?_; rintro e wy ⟨rfl, hy⟩)
            go_ret
            have hmR : -1 = R := by have := HGG.out; rwa [if_pos (by omega)] at this
            subst hmR
            exact ⟨rfl, below_t5 HB.out hy⟩
          · have hr' : 0 ≤ r := by omega
            go_wp2_with (go_at_call 35; refine CI.out.mono ?_; rintro e wy ⟨rfl, hy⟩)
            go_roundw
            case rel => exact ⟨k + 1, r, N, rfl, by go_num, hide ⟨HK.out.1, HK.out.2, by have := HRR.out; rw [show off + (k + 1) * 6 = off + k * 6 + 6 by omega]; exact this, by omega, by omega, by have := HGG.out; rwa [if_neg (by omega)] at this, below_t5 HB.out hy, H6.out.below hsz hy, Nat.lt_of_lt_of_le hsz hy.size⟩⟩
            case measure => simp [intOf]; omega
  by_cases hc : cont p = true
  · rw [if_pos hc] at hR
    by_cases hd : 32 < nest + 1
    · rw [if_pos hd] at hR
      subst hR
      have hc : (p.kind == 6 || p.kind == 7) = true := hc
      clear HI HM IH
      go_enter Tryz.func35, Tryz.ntmps35
      go_wp2_with (go_at_call 65; refine (C.out _ ((Below.refl _ _).alloc (Nat.le_refl _) _)).mono ?_; rintro e wz ⟨rfl, hz⟩; obtain ⟨s0, s1, s2, s3, s4, s5⟩ := (six_box w p ka kc ia (flen T) ic 25).below (by simp) hz; have HZ := hide hz; clear hz)
      all_goals
        go_ret
        exact ⟨rfl, below_t5 ((Below.refl _ _).alloc (Nat.le_refl _) _) HZ.out⟩
    · rw [if_neg hd] at hR
      exact key (nest + 1) (by omega) (by omega) (Or.inl ⟨hc, rfl⟩) hR
  · rw [if_neg hc] at hR
    exact key nest hn0 hn1 (Or.inr ⟨by simpa using hc, rfl⟩) hR
theorem good_core (CF : FlatC) : ∀ (M : Nat) (p : Pay) (T : BT Pay) (ka : Option Addr) (kc : Nat) (ia : Option Addr) (ic : Nat) (nest n : Int) (w : World), fsize T < M → OIn w p T ka kc ia ic → 0 ≤ nest → nest ≤ 32 → 0 ≤ n → n ≤ 65536 →
      Calls Tryz.prog 35 #[ov p ka kc ia (flen T) ic, .int .i64 nest, .int .i64 n] w fun e w' => e = .returned (.int .i64 (goodV p T nest n)) ∧ Below w.heap.size w w'
  | 0 => fun _ _ _ _ _ _ _ _ _ h => absurd h (Nat.not_lt_zero _)
  | M + 1 => fun p T ka kc ia ic nest n w hM hin a b c d => good_step CF M (good_core CF M) p T ka kc ia ic nest n w (by omega) hin a b c d
end Go.Proofs.YtcgoklacjniemaaGreatDoor
