/-
  The law OutPlaces, walked.
-/
import Derived.Test.YtpjbkngeiaclgaaDoorQF
import Derived.Test.YtpjbkngeiaclgaaDoorQA
namespace Go.Proofs.YtpjbkngeiaclgaaDoor
open Go.RowKit Go.Deep
set_option linter.unusedVariables false

theorem layG_len : ∀ (l : List EP) (k : Nat) (F : List UInt8) (zs : List Int) (q : List UInt8 × List Int), layG k l F zs = some q → q.2.length = zs.length + l.length
  | [], k, F, zs, q, h => by
    unfold layG at h
    cases h
    simp
  | x :: l, k, F, zs, q, h => by
    unfold layG at h
    split at h
    · have := layG_len l _ _ _ q h
      rw [this]
      simp
      omega
    · cases h
theorem lyZ_len (l : List EP) (root : Int) : (lyZ l root).length ≤ 4097 := by
  unfold lyZ
  split
  · simp
  · rename_i hc
    have hck := ck_ok (show ckV l root = 0 from Decidable.not_not.1 hc)
    unfold layV
    cases hG : layG 0 l hdrT [] with
    | none => simp
    | some q =>
      obtain ⟨F, zs⟩ := q
      have := layG_len l 0 hdrT [] _ hG
      simp only at this ⊢
      split
      · rename_i q2 heq
        simp
      · rename_i F2 z2 heq
        split at heq
        · cases heq
          simp at this ⊢
          omega
        · cases heq
set_option maxRecDepth 8000 in
set_option maxHeartbeats 4000000 in
theorem outPlaces_walk (l : List EP) (ea : Option Addr) (ec : Nat) (root : Int) (w : World) (hin : FileIn w l ea ec root) (hg : D2.Glo w) :
    Calls Tryd.prog 4 #[fv l ea ec root] w fun e w' => e = .returned (.bool true) ∧ Below w.heap.size w w' := by
  obtain ⟨⟨hF, hok⟩, hr1, hr2⟩ := hin
  have hal := (Below.refl w.heap.size w).alloc (Nat.le_refl _) (.cells (fbox l ea ec root) 24)
  have CL := hide (flarge_any l ea ec root _ (hF.below hal))
  have HF := hide hF
  have HOK := hide hok
  have HG := hide hg
  have HB0 := hide hal
  have HK0 := hide (Blk.new w (fbox l ea ec root) 24)
  have CW := hide (fun x (h : Below w.heap.size w x) => wakes6_any x (hg.below h))
  clear hF hok hg hal
  go_enter Tryd.func4, Tryd.ntmps4
  go_wp2_with fail
  refine CL.out.mono ?_
  rintro e w1 ⟨⟨r, rfl, hr⟩, h1⟩
  have hB1 := below_t5 HB0.out h1
  have HK1 := hide (HK0.out.below h1)
  have HB1 := hide hB1
  cases r
  case true =>
    have CW1 := hide (CW.out w1 hB1)
    clear h1 hB1 hr
    go_wp2_with (go_at_call 8; refine CW1.out.mono ?_; rintro e w2 ⟨rfl, h2⟩)
    go_ret
    exact ⟨rfl, below_t5 HB1.out h2⟩
  have hd2 := (hr rfl).2
  have CC := hide (fcopy_any l ea ec root w1 (HF.out.below hB1))
  have HD2 := hide hd2
  obtain ⟨⟨s0, s1⟩, _⟩ := HK1.out.two
  clear h1 hB1 hr hd2
  go_wp2_with fail
  refine CC.out.mono ?_
  rintro e w2 ⟨⟨eb, ed, rfl, hF2⟩, h2⟩
  have hB2 := below_t5 HB1.out h2
  have hin2 : FIn w2 l eb ed := hF2.sub (fresh_sub _ _)
  have HK2 := hide (HK1.out.below h2)
  have HB2 := hide hB2
  have COf := hide (offsets_any l eb ed root w2 hin2 HOK.out (HG.out.below hB2))
  clear s0 s1 h2 hF2 hin2 hB2
  go_wp2_with fail
  refine COf.out.mono ?_
  rintro e w3 ⟨⟨v3, rfl, hv3⟩, h3⟩
  have hB3 := below_t5 HB2.out h3
  have CLy := hide (rlay_any l ea ec root w3 (HF.out.below hB3) HOK.out HD2.out)
  have HK3 := hide (HK2.out.below h3)
  have HB3 := hide hB3
  have HV3 := hide hv3
  obtain ⟨⟨s0, s1⟩, _⟩ := HK3.out.two
  clear h3 hB3 hv3
  go_wp2_with fail
  refine CLy.out.mono ?_
  rintro e w4 ⟨hly, h4⟩
  obtain ⟨v4, rfl, hv4⟩ := hly.all
  have hB4 := below_t5 HB3.out h4
  have hL3 := (HV3.out.later6 h4).lst
  have hL4 := hv4.lst
  obtain ⟨a3, c3, rfl, hl3, _, _⟩ := hL3
  obtain ⟨a4, c4, rfl, hl4, _, _⟩ := hL4
  have CS := hide (same_any a3 a4 _ c3 c4 (lyZ l root) w4 rfl (Nat.le_trans (lyZ_len l root) (by omega)) hl3 hl4)
  have C4 := hide (fun x (hx : Below w4.heap.size w4 x) => CW.out x (below_t5 hB4 hx))
  have HB4 := hide hB4
  generalize lyE l root = E
  generalize (⟨(lyF l root).toArray⟩ : ByteArray) = S
  clear s0 s1 h4 hB4 hly hv4 hl3 hl4
  go_wp2_with (first | (go_at_call 16; refine CS.out.mono ?_; rintro e w6 ⟨rfl, n6, hn6⟩; subst hn6) | (go_at_call 8; refine (C4.out _ (below_drewN (Below.refl _ _) _)).mono ?_; rintro e w7 ⟨rfl, h7⟩))
  go_ret
  exact ⟨rfl, below_t5 HB4.out (below_t5 (below_drewN (Below.refl _ _) _) h7)⟩
end Go.Proofs.YtpjbkngeiaclgaaDoor
