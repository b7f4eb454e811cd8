/-
  What the landed Build and the reference's answer of any tables: one text and one error.
-/
import Derived.Test.YtgmmhlpdkoiheaaDoorS8Td
import Derived.Test.YtgmmhlpdkoiheaaDoorS8Tc
namespace Go.Proofs.YtgmmhlpdkoiheaaDoor
open Go.RowKit Go.Deep
set_option linter.unusedVariables false
set_option linter.unusedSimpArgs false

def btS (l : List Tab) : ByteArray := if bErr l = 0 then ⟨(txtV (sorV l)).toArray⟩ else ⟨#[]⟩
def BuR (w : World) (l : List Tab) (e : Ending) (w' : World) : Prop := e = .returned (.tuple #[.string (btS l), .int .i64 (bErr l)]) ∧ Below w.heap.size w w'
theorem rbuild_any (a : Option Addr) (l : List Tab) (n c : Nat) (w : World) (hn : l.length = n) (hm : n ≤ 1073741824) (hz : ∀ x ∈ l, x.1.size ≤ 1073741824 ∧ x.2.size ≤ 1073741824) (hL : TLst w a l) :
    Calls Tryd.prog 20 #[.slice a n c] w (BuR w l) := by
  by_cases hE : bErr l = 0
  · refine (rbuild_ok a l n c w hn hm hL hE).mono ?_
    rintro e w' ⟨rfl, hb⟩
    unfold BuR btS
    rw [if_pos hE, hE]
    exact ⟨rfl, hb⟩
  · refine (rbuild_err a l n c w hn hm hz hL hE).mono ?_
    rintro e w' ⟨rfl, hb⟩
    unfold BuR btS
    rw [if_neg hE]
    exact ⟨rfl, hb⟩
set_option maxRecDepth 8000 in
set_option maxHeartbeats 4000000 in
theorem build_any (a : Option Addr) (l : List Tab) (n c : Nat) (w : World) (hn : l.length = n) (hm : n ≤ 1073741824) (hz : ∀ x ∈ l, x.1.size ≤ 1073741824 ∧ x.2.size ≤ 1073741824) (hL : TLst w a l) (hG : Glo8 w) :
    Calls Tryd.prog 19 #[.slice a n c] w (BuR w l) := by
  have hm' : (n : Int) ≤ 1073741824 := by omega
  have h80 : bErr l = 80 → btS l = ⟨#[]⟩ := fun e => by unfold btS; rw [if_neg (by rw [e]; decide)]
  by_cases h1 : n < 1
  · have e : bErr l = 80 := by unfold bErr; rw [if_pos (by omega)]
    have h1' : (n : Int) < 1 := by omega
    unfold BuR
    rw [h80 e, e]
    clear hL hn hm hz h1 e h80 hG
    go_enter Tryd.func19, Tryd.ntmps19
    go_wp2_with fail
    go_ret2
    exact ⟨rfl, Below.refl _ _⟩
  by_cases h2 : 32 < n
  · have e : bErr l = 80 := by unfold bErr; rw [if_pos (by omega)]
    have h1' : ¬ (n : Int) < 1 := by omega
    have h2' : (32 : Int) < (n : Int) := by omega
    unfold BuR
    rw [h80 e, e]
    clear hL hn hm hz h1 h2 e h80 hG
    go_enter Tryd.func19, Tryd.ntmps19
    go_wp2_with fail
    go_ret2
    exact ⟨rfl, Below.refl _ _⟩
  have h1' : ¬ (n : Int) < 1 := by omega
  have h2' : ¬ (32 : Int) < (n : Int) := by omega
  obtain ⟨g, o, rfl, hg, hcell⟩ : ∃ g o, a = some ⟨g, o, none⟩ ∧ g < w.heap.size ∧ ∀ i x, l[i]? = some x → w.cell? ⟨g, o + i * 2, none⟩ = some (.string x.1) ∧ w.cell? ⟨g, o + i * 2 + 1, none⟩ = some (.string x.2) := by
    rcases hL with hz' | h
    · rw [hz'] at hn; simp at hn; omega
    · exact h
  have CC := hide (clones_any g o c n l w hn (by omega) (by omega) hg hcell)
  have CS := hide (fun B b cap w h => sort_any B b cap n l w h hn (by omega))
  have HZ := hide hz
  have HN := hide hn
  have HG := hide hG
  have H12 := hide (show 1 ≤ n ∧ n ≤ 32 by omega)
  have H80 := hide h80
  have HFI := hide (show ∀ m : List Tab, bErr l = 0 ∧ m = sorV l → btS l = ⟨(txtV m).toArray⟩ from fun m h => by unfold btS; rw [if_pos h.1, h.2])
  have H2 := hide (show bErr l = 2 → btS l = ⟨#[]⟩ from fun e => by unfold btS; rw [if_neg (by rw [e]; decide)])
  unfold BuR
  clear hL hcell hz hG h80 h1 h2 hn hm
  go_enter Tryd.func19, Tryd.ntmps19
  go_wp2_with fail
  refine CC.out.mono ?_
  rintro e w1 ⟨b, cap, rfl, hT, hB1⟩
  have CS1 := hide (CS.out _ _ _ _ hT)
  have HB1 := hide hB1
  have hwb := hT.base.1
  clear hT hB1 CC CS
  go_wp2_with fail
  refine CS1.out.mono ?_
  rintro e w2 ⟨rfl, m, hp, hs, hT2, hB2⟩
  have hml : m.length = n := by rw [hp.length_eq]; exact HN.out
  have hzm : ∀ x ∈ m, x.1.size ≤ 1073741824 ∧ x.2.size ≤ 1073741824 := fun x hx => HZ.out x (hp.subset hx)
  have hcm : ∀ i x, m[i]? = some x → w2.cell? ⟨b, i * 2, none⟩ = some (.string x.1) ∧ w2.cell? ⟨b, i * 2 + 1, none⟩ = some (.string x.2) := fun i x hx => hT2.at2 hml i x hx
  have hb2 : b < w2.heap.size := hT2.base.2
  have herr := err_of l m hp hs (by rw [HN.out]; exact H12.out.1) (by rw [HN.out]; exact H12.out.2)
  have CL := hide (lay_any b cap n m w2 hml H12.out.1 H12.out.2 hzm hb2 hcm)
  have HB2 := hide (HB1.out.trans hB2)
  have HCM := hide hcm
  have HML := hide hml
  have HERR := hide herr
  have HPB := hide (pl_bd m n (by have := H12.out; omega) (fun x hx => (hzm x hx).2))
  clear hp hs hT2 hB2 hzm hcm herr CS1 hml
  go_wp2_with fail
  refine CL.out.mono ?_
  rintro e w3 ⟨hB3, ⟨⟨x, hx, hx4⟩, rfl⟩ | ⟨h4, r, rc, rfl, hR⟩⟩
  · have e80 : bErr l = 80 := HERR.out.1 (fun h => hx4 (h.1 x hx))
    have HB3 := hide (below_t5 HB2.out hB3)
    have HE := hide (And.intro (H80.out e80) e80)
    clear hB3 hx hx4 e80
    go_wp2_with fail
    go_ret2
    exact ⟨by rw [HE.out.1, HE.out.2]; rfl, HB3.out⟩
  · obtain ⟨RB, hRB⟩ : ∃ B, riseM [0, 0, 0, 0] m = B := ⟨_, rfl⟩
    rw [hRB]
    have HB3 := hide (below_t5 HB2.out hB3)
    cases RB with
    | false =>
      have e80 : bErr l = 80 := HERR.out.1 (fun h => by have := h.2; rw [hRB] at this; cases this)
      have HE := hide (And.intro (H80.out e80) e80)
      clear hB3 hR h4 e80 hRB
      go_wp2_with fail
      go_ret2
      exact ⟨by rw [HE.out.1, HE.out.2]; rfl, HB3.out⟩
    | true =>
      have hgo : goM m := ⟨h4, hRB⟩
      have hpb : (plT m n : Int) ≤ 40000000000 := by have := HPB.out n (Nat.le_refl _) (by have := HML.out; omega); have := H12.out; omega
      by_cases hsz : 1048576 < plT m n
      · have hsz' : (1048576 : Int) < (plT m n : Int) := by omega
        have e2 : bErr l = 2 := HERR.out.2.1 hgo (by rw [HML.out]; exact hsz)
        have HE := hide (And.intro (H2.out e2) e2)
        clear hB3 hR h4 e2 hRB hgo hsz
        go_wp2_with fail
        go_ret2
        exact ⟨by rw [HE.out.1, HE.out.2]; rfl, HB3.out⟩
      · have hsz' : ¬ (1048576 : Int) < (plT m n : Int) := by omega
        have e0 := HERR.out.2.2 hgo (by rw [HML.out]; omega)
        have HE := hide (And.intro (HFI.out m e0) e0.1)
        have CW := hide (write_any b cap r rc n m w3 HML.out H12.out.1 H12.out.2 hgo (by omega) (Nat.lt_of_lt_of_le hb2 hB3.size) (fun i x hx => by
          rw [hB3.cell (p := ⟨b, i * 2, none⟩) hb2, hB3.cell (p := ⟨b, i * 2 + 1, none⟩) hb2]
          exact HCM.out i x hx) hR (HG.out.below HB3.out))
        clear hB3 hR h4 e0 hRB hgo hsz
        go_wp2_with fail
        refine CW.out.mono ?_
        rintro e w4 ⟨rfl, hB4⟩
        have HB4 := hide (below_t5 HB3.out hB4)
        clear hB4
        go_wp2_with fail
        go_ret2
        exact ⟨by rw [HE.out.1, HE.out.2]; rfl, HB4.out⟩
end Go.Proofs.YtgmmhlpdkoiheaaDoor
