/-
  The law OutWrites, walked.
-/
import Derived.Test.YtpjbkngeiaclgaaDoorQF
import Derived.Test.YtpjbkngeiaclgaaDoorQA
import Derived.Deep.RegionHeld3
namespace Go.Proofs.YtpjbkngeiaclgaaDoor
open Go.RowKit Go.Deep
set_option linter.unusedVariables false

set_option maxRecDepth 8000 in
set_option maxHeartbeats 4000000 in
theorem outWrites_walk (l : List EP) (ea : Option Addr) (ec : Nat) (root : Int) (w : World) (hin : FileIn w l ea ec root) (hg : D2.Glo w) :
    Calls Tryd.prog 3 #[fv l ea ec root] w fun e w' => e = .returned (.bool true) ∧ Below w.heap.size w w' := by
  obtain ⟨⟨hF, hok⟩, hr1, hr2⟩ := hin
  have hal := (Below.refl w.heap.size w).alloc (Nat.le_refl _) (.cells (fbox l ea ec root) 24)
  have CL := hide (flarge_any l ea ec root _ (hF.below hal))
  have HF := hide hF
  have HOK := hide hok
  have HG := hide hg
  have HB0 := hide hal
  have HK0 := hide (Blk.new w (fbox l ea ec root) 24)
  have CW := hide (fun x (h : Below w.heap.size w x) => wakes6_any x (hg.below h))
  clear hF hok hg hal
  go_enter Tryd.func3, Tryd.ntmps3
  go_wp2_with fail
  refine CL.out.mono ?_
  rintro e w1 ⟨⟨r, rfl, hr⟩, h1⟩
  have hB1 := below_t5 HB0.out h1
  have HK1 := hide (HK0.out.below h1)
  have HB1 := hide hB1
  cases r
  case true =>
    have CW1 := hide (CW.out w1 hB1)
    clear h1 hB1 hr
    go_wp2_with (go_at_call 8; refine CW1.out.mono ?_; rintro e w2 ⟨rfl, h2⟩)
    go_ret
    exact ⟨rfl, below_t5 HB1.out h2⟩
  have hd2 := (hr rfl).2
  have CC := hide (fcopy_any l ea ec root w1 (HF.out.below hB1))
  have HD2 := hide hd2
  obtain ⟨⟨s0, s1⟩, _⟩ := HK1.out.two
  clear h1 hB1 hr hd2
  go_wp2_with fail
  refine CC.out.mono ?_
  rintro e w2 ⟨⟨eb, ed, rfl, hF2⟩, h2⟩
  have hB2 := below_t5 HB1.out h2
  have hin2 : FIn w2 l eb ed := hF2.sub (fresh_sub _ _)
  have hal2 := (Below.refl w2.heap.size w2).alloc (Nat.le_refl _) (.cells (fbox l eb ed root) 24)
  have HK2 := hide ((HK1.out.below h2).below hal2)
  have HI2 := hide (Blk.new w2 (fbox l eb ed root) 24)
  have HB2 := hide (below_t5 hB2 hal2)
  have HF2 := hide (hin2.below hal2)
  have CWr := hide (write_any l eb ed root _ (hin2.below hal2) HOK.out (HG.out.below (below_t5 hB2 hal2)))
  clear s0 s1 h2 hF2 hin2 hB2 hal2
  obtain ⟨S, hS⟩ : ∃ S : ByteArray, ⟨(lyF l root).toArray⟩ = S := ⟨_, rfl⟩
  rw [hS] at CWr
  have HS := hide hS
  clear hS
  go_wp2_with fail
  refine CWr.out.mono ?_
  rintro e w3 ⟨rfl, h3⟩
  have hB3 := below_t5 HB2.out h3
  have CLy := hide (rlay_any l ea ec root w3 (HF.out.below hB3) HOK.out HD2.out)
  have HK3 := hide (HK2.out.below h3)
  have HI3 := hide (HI2.out.below h3)
  have HF3 := hide (HF2.out.below h3)
  have HB3 := hide hB3
  obtain ⟨⟨s0, s1⟩, _⟩ := HK3.out.two
  clear h3 hB3
  go_wp2_with fail
  refine CLy.out.mono ?_
  rintro e w4 ⟨hly, h4⟩
  obtain ⟨v4, rfl, hv4⟩ := hly.all
  rw [HS.out]
  have hB4 := below_t5 HB3.out h4
  have hk4 := HK3.out.below h4
  have hi4 := HI3.out.below h4
  have hf4 := HF3.out.below h4
  have KS := hide (show ∀ x, Below w4.heap.size w4 x → (fun x => x.cell? ⟨w.heap.size, 0, none⟩ = some (.slice ea l.length ec) ∧ x.cell? ⟨w.heap.size, 1, none⟩ = some (.int .i64 root) ∧ x.cell? ⟨w2.heap.size, 0, none⟩ = some (.slice eb l.length ed) ∧ x.cell? ⟨w2.heap.size, 1, none⟩ = some (.int .i64 root)) x from fun x hx => ⟨(hk4.below hx).two.1.1, (hk4.below hx).two.1.2, (hi4.below hx).two.1.1, (hi4.below hx).two.1.2⟩)
  have C1 := hide (fun x (hx : Below w4.heap.size w4 x) => check_any l eb ed root x (hf4.below hx) HOK.out)
  have C2 := hide (fun x (hx : Below w4.heap.size w4 x) => rcheck_any l ea ec root x ((HF.out.below hB4).below hx) HD2.out)
  have C3 := hide (fun x (hx : Below w4.heap.size w4 x) => fsame_refl l eb ea ed ec root x (hf4.below hx) ((HF.out.below hB4).below hx))
  have C4 := hide (fun x (hx : Below w4.heap.size w4 x) => CW.out x (below_t5 hB4 hx))
  have HB4 := hide hB4
  have HB := hide (Below.refl w4.heap.size w4)
  generalize ckV l root = R at C1 C2
  generalize lyE l root = E
  clear s0 s1 h4 hB4 hk4 hi4 hf4 hly hv4
  go_wp2_with fail
  rename_i q0
  have HA := hide q0
  clear q0
  go_region_held3 (fun x => x.cell? ⟨w.heap.size, 0, none⟩ = some (.slice ea l.length ec) ∧ x.cell? ⟨w.heap.size, 1, none⟩ = some (.int .i64 root) ∧ x.cell? ⟨w2.heap.size, 0, none⟩ = some (.slice eb l.length ed) ∧ x.cell? ⟨w2.heap.size, 1, none⟩ = some (.int .i64 root)) (first | exact KS.out _ (below_d HB.out (Below.refl _ _) rfl rfl rfl rfl) | go_keep) ((first | (go_at_call 12; refine (C1.out _ ?_).mono ?_; exact below_d HB.out (Below.refl _ _) rfl rfl rfl rfl; rintro e x ⟨rfl, hbx⟩; replace HB := hide (below_d HB.out hbx rfl rfl rfl rfl); clear hbx) | (go_at_call 13; refine (C2.out _ ?_).mono ?_; exact below_d HB.out (Below.refl _ _) rfl rfl rfl rfl; rintro e x ⟨rfl, hbx⟩; replace HB := hide (below_d HB.out hbx rfl rfl rfl rfl); clear hbx) | (go_at_call 14; refine (C3.out _ ?_).mono ?_; exact below_d HB.out (Below.refl _ _) rfl rfl rfl rfl; rintro e x ⟨rfl, hbx⟩; replace HB := hide (below_d HB.out hbx rfl rfl rfl rfl); clear hbx) | (go_at_call 8; refine (C4.out _ ?_).mono ?_; exact below_d HB.out (Below.refl _ _) rfl rfl rfl rfl; rintro e x ⟨rfl, hbx⟩; replace HB := hide (below_d HB.out hbx rfl rfl rfl rfl); clear hbx)))
  all_goals
    refine HA.out _ _ ?_
    go_wp2_with fail
    go_ret
    exact ⟨rfl, below_t5 HB4.out (below_d HB.out (Below.refl _ _) rfl rfl rfl rfl)⟩
end Go.Proofs.YtpjbkngeiaclgaaDoor
