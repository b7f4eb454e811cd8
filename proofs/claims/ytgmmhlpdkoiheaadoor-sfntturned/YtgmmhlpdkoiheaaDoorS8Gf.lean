/-
  What the landed summed and fault answer.
-/
import Derived.Test.YtgmmhlpdkoiheaaDoorS8Gt
import Derived.Test.YtgmmhlpdkoiheaaDoorShelfR
namespace Go.Proofs.YtgmmhlpdkoiheaaDoor
open Go.RowKit Go.Deep
set_option linter.unusedVariables false

theorem holdsS {b0 b1 b2 b3 : UInt8} {n : Nat} {B : Bool} (h : (isHd b0 b1 b2 b3 && decide (12 ≤ n)) = B) (w : World) (hg : Glo8 w) (h1 : n ≤ 140737488355328) :
    Calls Tryd.prog 56 #[.agg (tgC b0 b1 b2 b3), .int .i64 n] w fun e w' => e = .returned (.bool B) ∧ Below w.heap.size w w' := by
  have hh := holds_any b0 b1 b2 b3 (n : Int) w hg (by omega) (by omega)
  rw [show decide ((12 : Int) ≤ (n : Int)) = decide (12 ≤ n) by rw [decide_eq_decide]; omega, h] at hh
  exact hh
def smS (b0 b1 b2 b3 : UInt8) (s : ByteArray) : ByteArray := if (isHd b0 b1 b2 b3 && decide (12 ≤ s.size)) = true then s.extract 0 8 ++ ⟨#[0, 0, 0, 0]⟩ ++ s.extract 12 s.size else s
theorem repeat_four (w : World) : Calls Tryd.prog 59 #[.string ⟨#[0]⟩, .int .i64 4] w fun e w' => e = .returned (.string ⟨#[0, 0, 0, 0]⟩) ∧ Below w.heap.size w w' := by
  have h := Any.strings_Repeat lays105 Builder_Extra_105 ⟨#[0]⟩ 4 w (by decide) (by decide)
  exact h
set_option maxRecDepth 8000 in
set_option maxHeartbeats 1000000 in
theorem summed_any (b0 b1 b2 b3 : UInt8) (s : ByteArray) (w : World) (hg : Glo8 w) (hs : s.size ≤ 1000000000) :
    Calls Tryd.prog 48 #[.agg (tgC b0 b1 b2 b3), .string s] w fun e w' => e = .returned (.string (smS b0 b1 b2 b3 s)) ∧ Below w.heap.size w w' := by
  have hb := (Below.refl w.heap.size w).alloc (Nat.le_refl _) (.cells (tgC b0 b1 b2 b3) 54)
  have HB := hide hb
  have HG := hide (hg.below hb)
  have hs' : (s.size : Int) ≤ 1000000000 := by omega
  clear hb hg
  cases hc : (isHd b0 b1 b2 b3 && decide (12 ≤ s.size)) with
  | false =>
    have C := hide (fun w hg => holdsS (n := s.size) hc w hg (by omega))
    have e : smS b0 b1 b2 b3 s = s := by unfold smS; rw [hc]; rfl
    rw [e]
    clear hc e hs
    go_enter Tryd.func48, Tryd.ntmps48
    go_wp2_with (go_at_call 56; refine (C.out _ HG.out).mono ?_; rintro e w1 ⟨rfl, h1⟩; have H1 := hide (below_t5 HB.out h1); clear h1)
    go_ret
    exact ⟨rfl, H1.out⟩
  | true =>
    have C := hide (fun w hg => holdsS (n := s.size) hc w hg (by omega))
    have CR := hide repeat_four
    have h12 : 12 ≤ s.size := by simp at hc; exact hc.2
    have e : smS b0 b1 b2 b3 s = s.extract 0 8 ++ ⟨#[0, 0, 0, 0]⟩ ++ s.extract 12 s.size := by unfold smS; rw [hc]; rfl
    rw [e]
    have hA : (s.extract 0 8).size = 8 := by rw [ByteArray.size_extract]; omega
    have hC : (s.extract 12 s.size).size ≤ s.size := by rw [ByteArray.size_extract]; omega
    have a1 : ∀ w, (Op.stringOp .add (s.extract 0 8) (⟨#[0, 0, 0, 0]⟩ : ByteArray)).run Tryd.prog w = .ok (.string (s.extract 0 8 ++ ⟨#[0, 0, 0, 0]⟩)) w := fun w => run_string_add_sum (P := Tryd.prog) w _ _ (by rw [hA]; show 8 + 4 ≤ _; omega)
    have a2 : ∀ w, (Op.stringOp .add (s.extract 0 8 ++ ⟨#[0, 0, 0, 0]⟩) (s.extract 12 s.size)).run Tryd.prog w = .ok (.string (s.extract 0 8 ++ ⟨#[0, 0, 0, 0]⟩ ++ s.extract 12 s.size)) w := fun w => run_string_add_sum (P := Tryd.prog) w _ _ (by rw [ByteArray.size_append, hA]; show 8 + 4 + _ ≤ _; omega)
    have z1 : (8 : Int) ≤ (s.size : Int) := by omega
    have z2 : (12 : Int) ≤ (s.size : Int) := by omega
    have z3 : 8 ≤ s.size := by omega
    generalize hZ : (⟨#[0, 0, 0, 0]⟩ : ByteArray) = Z at a1 a2 CR ⊢
    clear hc e hs hA hC hZ
    go_enter Tryd.func48, Tryd.ntmps48
    go_wp2_with (go_at_call 56; refine (C.out _ HG.out).mono ?_; rintro e w1 ⟨rfl, h1⟩; have H1 := hide (below_t5 HB.out h1); clear h1)
    rename_i kk0
    have HA := hide kk0
    clear kk0
    have HC := hide (Below.refl w1.heap.size w1)
    go_region_held3 (fun _ => True) (first | trivial | go_keep) ((go_at_call 59; refine (CR.out _).mono ?_; rintro e x ⟨rfl, hbx⟩; replace HC := hide (below_d HC.out hbx rfl rfl rfl rfl); clear hbx))
    all_goals
      refine HA.out _ _ ?_
      go_wp2
      go_ret
      exact ⟨rfl, below_t5 H1.out (below_d HC.out (Below.refl _ _) rfl rfl rfl rfl)⟩
theorem smS_list (r : Rw) (s : ByteArray) : (smS r.b0 r.b1 r.b2 r.b3 s).data.toList = smdT r s.data.toList := by
  unfold smS smdT
  rw [← Lib.size_eq]
  by_cases hc : (isHd r.b0 r.b1 r.b2 r.b3 && decide (12 ≤ s.size)) = true
  · rw [if_pos hc, if_pos hc]
    rw [ByteArray.data_append, ByteArray.data_append, Array.toList_append, Array.toList_append, slice_list _ _ _ (by simp at hc; omega), slice_list _ _ _ (Nat.le_refl _), List.drop_zero, List.append_assoc]
    rw [List.take_of_length_le (l := List.drop 12 s.data.toList) (by rw [List.length_drop, ← Lib.size_eq]; omega)]
  · rw [if_neg hc, if_neg hc]
theorem smS_size (b0 b1 b2 b3 : UInt8) (s : ByteArray) : (smS b0 b1 b2 b3 s).size = s.size := by
  unfold smS
  split
  · rename_i hc
    simp at hc
    rw [ByteArray.size_append, ByteArray.size_append, ByteArray.size_extract, ByteArray.size_extract]
    show _ + 4 + _ = _
    omega
  · rfl
theorem any_none {rs : List Rw} {f : Rw → Bool} {k : Nat} (h : ∀ i, i < k → ∀ q, rs[i]? = some q → f q = false) : (rs.take k).any f = false := by
  rw [List.any_eq_false]
  intro q hq
  obtain ⟨i, hi, rfl⟩ := List.getElem_of_mem hq
  rw [List.length_take] at hi
  rw [h i (by omega) _ (by rw [List.getElem_take]; exact List.getElem?_eq_getElem (by omega))]
  simp
theorem any_hit {rs : List Rw} {f : Rw → Bool} {k j : Nat} {q : Rw} (hj : j < k) (hq : rs[j]? = some q) (h : f q = true) : (rs.take k).any f = true := by
  rw [List.any_eq_true]
  refine ⟨q, ?_, h⟩
  refine List.mem_of_getElem? (i := j) ?_
  rw [List.getElem?_take, if_pos hj]; exact hq
set_option maxRecDepth 8000 in
set_option maxHeartbeats 4000000 in
theorem fault_any (s : ByteArray) (rs : List Rw) (b n c : Nat) (w : World) (hn : rs.length = n) (hm : n ≤ 32) (hc : n ≤ c) (hc2 : c ≤ 1000000) (hs : s.size ≤ 1048576) (h : RLst w b rs) (hok : ∀ r ∈ rs, RwOk r) (hg : Glo8 w) :
    Calls Tryd.prog 25 #[.string s, .slice (some ⟨b, 0, none⟩) n c] w fun e w' => e = .returned (.int .i64 (fauG s.data.toList s.size n [] rs 0)) ∧ Below w.heap.size w w' := by
  obtain ⟨R, hR⟩ : ∃ R, fauG s.data.toList s.size n [] rs 0 = R := ⟨_, rfl⟩
  rw [hR]
  have hm' : (n : Int) ≤ 32 := by omega
  have hc' : (n : Int) ≤ (c : Int) := by omega
  have hc3 : (c : Int) ≤ 1000000 := by omega
  have hs' : (s.size : Int) ≤ 1048576 := by omega
  have HS := hide hs
  have HL := hide h
  have HN := hide hn
  have HR := hide hR
  have HO := hide hok
  have HGl := hide hg
  have hb := h.1
  have CD := hide (fun w => dsize_any (n : Int) w (by omega) (by omega))
  clear h hn hR hok hg hs
  go_enter Tryd.func25, Tryd.ntmps25
  go_wp2_with fail
  go_step3
  go_wp2_with fail
  go_step3
  go_wp2_with fail
  go_loopg [5, 12] n (fun g ve vi wr => ∃ (k : Nat) (E : Int), vi = .int .i64 k ∧ ve = .int .i64 E ∧ Hid (g + k = n ∧ fauG s.data.toList s.size n (rs.take k) (rs.drop k) E = R ∧ Below w.heap.size w wr))
  case atStart => exact ⟨0, 0, rfl, rfl, hide ⟨by omega, by rw [List.drop_zero]; exact HR.out, Below.refl _ _⟩⟩
  case round =>
    obtain ⟨W1, hW1⟩ : ∃ W1, W1 = wr := ⟨_, rfl⟩
    subst hW1
    obtain ⟨k, E, rfl, rfl, HV⟩ := hrel
    obtain ⟨hgk, hr, hbw⟩ := HV.out
    have hk0 : (0 : Int) ≤ (k : Int) := by omega
    clear HV
    have HBW := hide hbw
    have HGk := hide hgk
    by_cases hlt : k < n
    case neg =>
      have hlt' : ¬ (k : Int) < (n : Int) := by omega
      have e : R = E := by rw [← hr, List.drop_eq_nil_of_le (by have := HN.out; omega)]; rfl
      subst e
      clear hr hbw hgk
      go_wp2_with fail
      go_ret
      exact ⟨rfl, HBW.out⟩
    have hlt' : (k : Int) < (n : Int) := by omega
    obtain ⟨r, hx⟩ : ∃ r, rs[k]? = some r := ⟨_, List.getElem?_eq_getElem (by have := HN.out; omega)⟩
    obtain ⟨g0, g1, g2, g3, g4, g5, g6⟩ := (HL.out.kept hbw hb).2 k r hx
    rw [drop_at rs k hx, fauG, ← take_at rs k hx] at hr
    have hrk : RwOk r := HO.out r (List.mem_of_getElem? hx)
    have hbr : b < W1.heap.size := Nat.lt_of_lt_of_le hb hbw.size
    have hne1 : b ≠ W1.heap.size := by omega
    have hGW := HGl.out.below hbw
    obtain ⟨b0, b1, b2, b3, sum, pl, ln⟩ := r
    simp only at g0 g1 g2 g3 g4 g5 g6
    have HRK := hide hrk
    obtain ⟨⟨o1, o2⟩, ⟨o3, o4⟩, ⟨o5, o6⟩⟩ := hrk
    simp only at o1 o2 o3 o4 o5 o6
    obtain ⟨P, rfl⟩ : ∃ P : Nat, pl = (P : Int) := ⟨pl.toNat, by omega⟩
    obtain ⟨Q, rfl⟩ : ∃ Q : Nat, ln = (Q : Int) := ⟨ln.toNat, by omega⟩
    have CE := hide (fun w => end_any ⟨b0, b1, b2, b3, sum, (P : Int), (Q : Int)⟩ w HRK.out)
    have k1 := Blk.new W1 (rC b0 b1 b2 b3 sum (P : Int) (Q : Int)) 56
    have HBV := hide (show Below w.heap.size w (W1.alloc (.cells (rC b0 b1 b2 b3 sum (P : Int) (Q : Int)) 56)) from hbw.alloc hbw.size _)
    have hLV := HL.out.kept HBV.out hb
    have hGV := HGl.out.below HBV.out
    have HX := hide hr
    have HXX := hide hx
    clear hr hbw hx hgk hGW
    go_wp2_with fail
    rename_i kk0
    have HA := hide kk0
    clear kk0
    generalize W1.alloc (.cells (rC b0 b1 b2 b3 sum (P : Int) (Q : Int)) 56) = V at k1 HBV hLV hGV ⊢
    have KS := hide (show ∀ x, Below V.heap.size V x → (fun x => x.cell? ⟨W1.heap.size, 0, none⟩ = some (.int .u8 (b0.toNat : Int)) ∧ x.cell? ⟨W1.heap.size, 1, none⟩ = some (.int .u8 (b1.toNat : Int)) ∧ x.cell? ⟨W1.heap.size, 2, none⟩ = some (.int .u8 (b2.toNat : Int)) ∧ x.cell? ⟨W1.heap.size, 3, none⟩ = some (.int .u8 (b3.toNat : Int)) ∧ x.cell? ⟨W1.heap.size, 4, none⟩ = some (.int .i64 sum) ∧ x.cell? ⟨W1.heap.size, 5, none⟩ = some (.int .i64 (P : Int)) ∧ x.cell? ⟨W1.heap.size, 6, none⟩ = some (.int .i64 (Q : Int))) x from fun x hx => ⟨(k1.below hx).cell 0, (k1.below hx).cell 1, (k1.below hx).cell 2, (k1.below hx).cell 3, (k1.below hx).cell 4, (k1.below hx).cell 5, (k1.below hx).cell 6⟩)
    have HB := hide (Below.refl V.heap.size V)
    have HLV := hide hLV
    have HGV := hide hGV
    have hWV : W1.heap.size < V.heap.size := k1.lt
    clear k1 hLV hGV g0 g1 g2 g3 g4 g5 g6
    by_cases p1 : (P : Int) % 4 = 0
    case neg =>
      have p1' : ((P : Int) % 4 != 0) = true := by simpa using p1
      have e : R = 80 := by
        rw [← HX.out, show plB s.size n ⟨b0, b1, b2, b3, sum, (P : Int), (Q : Int)⟩ = false by unfold plB; simp only; rw [show decide ((P : Int) % 4 = 0) = false by simpa using p1]; rfl]
        rfl
      subst e
      obtain ⟨c0, c1, c2, c3, c4, c5, c6⟩ := KS.out V (Below.refl _ _)
      clear HX
      go_quiet (fail)
      refine HA.out _ _ ?_
      go_wp2_with fail
      try rw [Exit.noGoto_ret]
      go_ret
      exact ⟨rfl, below_drewN HBV.out _⟩
    have p1' : ((P : Int) % 4 != 0) = false := by simpa using p1
    have p1t : (P : Int).tmod 4 = 0 := by rw [Int.tmod_eq_emod_of_nonneg (by omega)]; exact p1
    by_cases p2 : (P : Int) < 12 + 16 * (n : Int)
    case pos =>
      have e : R = 80 := by
        rw [← HX.out, show plB s.size n ⟨b0, b1, b2, b3, sum, (P : Int), (Q : Int)⟩ = false by unfold plB; simp only; rw [show decide ((12 : Int) + 16 * (n : Int) ≤ (P : Int)) = false by rw [decide_eq_false_iff_not]; omega]; simp]
        rfl
      subst e
      obtain ⟨c0, c1, c2, c3, c4, c5, c6⟩ := KS.out V (Below.refl _ _)
      clear HX
      go_quiet ((go_at_call 44; exact Calls.quiet_of_same (CD.out _)))
      refine HA.out _ _ ?_
      go_wp2_with fail
      try rw [Exit.noGoto_ret]
      go_ret
      exact ⟨rfl, below_drewN HBV.out _⟩
    have p2d : decide ((P : Int) < 12 + 16 * (n : Int)) = false := by simpa using p2
    by_cases p3 : (s.size : Int) < (P : Int) + (Q : Int)
    case pos =>
      have p3d : decide ((s.size : Int) < (P : Int) + (Q : Int)) = true := by simpa using p3
      have e : R = 80 := by
        rw [← HX.out, show plB s.size n ⟨b0, b1, b2, b3, sum, (P : Int), (Q : Int)⟩ = false by unfold plB; simp only; rw [show decide ((P : Int) + (Q : Int) ≤ (s.size : Int)) = false by rw [decide_eq_false_iff_not]; omega]; simp]
        rfl
      subst e
      clear HX
      go_region_held3 (fun x => x.cell? ⟨W1.heap.size, 0, none⟩ = some (.int .u8 (b0.toNat : Int)) ∧ x.cell? ⟨W1.heap.size, 1, none⟩ = some (.int .u8 (b1.toNat : Int)) ∧ x.cell? ⟨W1.heap.size, 2, none⟩ = some (.int .u8 (b2.toNat : Int)) ∧ x.cell? ⟨W1.heap.size, 3, none⟩ = some (.int .u8 (b3.toNat : Int)) ∧ x.cell? ⟨W1.heap.size, 4, none⟩ = some (.int .i64 sum) ∧ x.cell? ⟨W1.heap.size, 5, none⟩ = some (.int .i64 (P : Int)) ∧ x.cell? ⟨W1.heap.size, 6, none⟩ = some (.int .i64 (Q : Int))) (first | exact KS.out _ (below_d HB.out (Below.refl _ _) rfl rfl rfl rfl) | go_keep) ((first | (go_at_call 27; refine (CE.out _).mono ?_; rintro e x ⟨rfl, hbx⟩; replace HB := hide (below_d HB.out hbx rfl rfl rfl rfl); clear hbx) | (go_at_call 44; refine (CD.out _).mono ?_; rintro e x ⟨rfl, rfl⟩)))
      all_goals
        refine HA.out _ _ ?_
        go_wp2_with fail
        try rw [Exit.noGoto_ret]
        go_ret
        exact ⟨rfl, HBV.out.trans ((below_d HB.out (Below.refl _ _) rfl rfl rfl rfl).mono HBV.out.size)⟩
    have p3d : decide ((s.size : Int) < (P : Int) + (Q : Int)) = false := by simpa using p3
    have hpl : plB s.size n ⟨b0, b1, b2, b3, sum, (P : Int), (Q : Int)⟩ = true := by
      unfold plB; simp only
      rw [Bool.and_eq_true, Bool.and_eq_true, decide_eq_true_eq, decide_eq_true_eq, decide_eq_true_eq]
      exact ⟨p1, by omega, by omega⟩
    have hr := HX.out
    rw [hpl, if_pos rfl] at hr
    have HR2 := hide hr
    clear HX hr hpl
    go_region_held3 (fun x => x.cell? ⟨W1.heap.size, 0, none⟩ = some (.int .u8 (b0.toNat : Int)) ∧ x.cell? ⟨W1.heap.size, 1, none⟩ = some (.int .u8 (b1.toNat : Int)) ∧ x.cell? ⟨W1.heap.size, 2, none⟩ = some (.int .u8 (b2.toNat : Int)) ∧ x.cell? ⟨W1.heap.size, 3, none⟩ = some (.int .u8 (b3.toNat : Int)) ∧ x.cell? ⟨W1.heap.size, 4, none⟩ = some (.int .i64 sum) ∧ x.cell? ⟨W1.heap.size, 5, none⟩ = some (.int .i64 (P : Int)) ∧ x.cell? ⟨W1.heap.size, 6, none⟩ = some (.int .i64 (Q : Int))) (first | exact KS.out _ (below_d HB.out (Below.refl _ _) rfl rfl rfl rfl) | go_keep) ((first | (go_at_call 27; refine (CE.out _).mono ?_; rintro e x ⟨rfl, hbx⟩; replace HB := hide (below_d HB.out hbx rfl rfl rfl rfl); clear hbx) | (go_at_call 44; refine (CD.out _).mono ?_; rintro e x ⟨rfl, rfl⟩)))
    refine HA.out _ _ ?_
    clear HA
    have hkc : (k : Int) ≤ (c : Int) := by omega
    go_wp2_with fail
    go_loopg [5, 40] k (fun g ve vj wi => ∃ (j : Nat), vj = .int .i64 j ∧ ve = .int .i64 E ∧ Hid (g + j = k ∧ (∀ i, i < j → ∀ q, rs[i]? = some q → meetB ⟨b0, b1, b2, b3, sum, (P : Int), (Q : Int)⟩ q = false) ∧ Below V.heap.size V wi))
    case atStart => exact ⟨0, rfl, rfl, hide ⟨by omega, fun i hi => by omega, below_d HB.out (Below.refl _ _) rfl rfl rfl rfl⟩⟩
    case round =>
      obtain ⟨j, rfl, rfl, HV⟩ := hrel
      obtain ⟨hgj, hall, hbi⟩ := HV.out
      have hj0 : (0 : Int) ≤ (j : Int) := by omega
      clear HV HB
      have HALL := hide hall
      have HBI := hide hbi
      have HGj := hide hgj
      obtain ⟨c0, c1, c2, c3, c4, c5, c6⟩ := KS.out wr hbi
      have hWr : W1.heap.size < wr.heap.size := Nat.lt_of_lt_of_le hWV hbi.size
      by_cases hjk : j < k
      · have hjk' : (j : Int) < (k : Int) := by omega
        obtain ⟨q, hq⟩ : ∃ q, rs[j]? = some q := ⟨_, List.getElem?_eq_getElem (by have := HN.out; omega)⟩
        obtain ⟨d0, d1, d2, d3, d4, d5, d6⟩ := (HLV.out.below hbi).2 j q hq
        have hqk : RwOk q := HO.out q (List.mem_of_getElem? hq)
        have hbq : b < wr.heap.size := by omega
        have hneq : b ≠ wr.heap.size := by omega
        have hneW : W1.heap.size ≠ wr.heap.size := by omega
        have CMt := hide (fun w => meets_any ⟨b0, b1, b2, b3, sum, (P : Int), (Q : Int)⟩ q w HRK.out hqk)
        have HQ := hide hq
        have HNEXT := hide (show Below V.heap.size V (wr.alloc (.cells (rwC q) 56)) from hbi.alloc hbi.size _)
        cases hmt : meetB ⟨b0, b1, b2, b3, sum, (P : Int), (Q : Int)⟩ q with
        | true =>
          have e : R = 80 := by rw [← HR2.out, any_hit (f := fun q => meetB ⟨b0, b1, b2, b3, sum, (P : Int), (Q : Int)⟩ q) hjk HQ.out hmt]; rfl
          subst e
          rw [hmt] at CMt
          obtain ⟨e0, e1, e2, e3, s2, p2', l2⟩ := q
          simp only at d0 d1 d2 d3 d4 d5 d6
          clear hall hbi hgj hq hqk hmt HR2
          go_wp2_with (go_at_call 47; refine (CMt.out _).mono ?_; rintro e w9 ⟨rfl, h9⟩)
          try rw [Exit.noGoto_ret]
          go_ret
          exact ⟨rfl, HBV.out.trans ((below_t5 HNEXT.out h9).mono HBV.out.size)⟩
        | false =>
          rw [hmt] at CMt
          have HALL2 : Hid (∀ i, i < j + 1 → ∀ q, rs[i]? = some q → meetB ⟨b0, b1, b2, b3, sum, (P : Int), (Q : Int)⟩ q = false) := hide fun i hi p hp => by
            rcases Nat.lt_or_ge i j with h' | h'
            · exact HALL.out i h' p hp
            · obtain rfl : i = j := by omega
              rw [HQ.out] at hp; injection hp with hp; rw [← hp]; exact hmt
          obtain ⟨e0, e1, e2, e3, s2, p2', l2⟩ := q
          simp only at d0 d1 d2 d3 d4 d5 d6
          clear hall hbi hgj hq hqk hmt HALL
          go_wp2_with (go_at_call 47; refine (CMt.out _).mono ?_; rintro e w9 ⟨rfl, h9⟩)
          go_roundg (k - (j + 1))
          case rel => exact ⟨j + 1, by go_num, rfl, hide ⟨by have := HGj.out; omega, HALL2.out, below_t5 HNEXT.out h9⟩⟩
          case measure => have := HGj.out; omega
      · have hjk' : ¬ (j : Int) < (k : Int) := by omega
        obtain rfl : j = k := by omega
        have hr := HR2.out
        rw [any_none (f := fun q => meetB ⟨b0, b1, b2, b3, sum, (P : Int), (Q : Int)⟩ q) HALL.out, if_neg (by simp)] at hr
        have HB := hide hbi
        obtain ⟨SM, hSM⟩ : ∃ SM, smS b0 b1 b2 b3 (s.extract P (P + Q)) = SM := ⟨_, rfl⟩
        have hPQ : ((P : Int) + (Q : Int)).toNat = P + Q := by omega
        have hsz : SM.size ≤ 1048576 := by rw [← hSM, smS_size, ByteArray.size_extract]; have := HS.out; omega
        have CS := hide (show ∀ (t : ByteArray) (x : World), Below V.heap.size V x → t = s.extract P (P + Q) → Calls Tryd.prog 48 #[.agg (tgC b0 b1 b2 b3), .string t] x fun e w' => e = .returned (.string SM) ∧ Below x.heap.size x w' from fun t x hbx ht => by
          have hh := summed_any b0 b1 b2 b3 t x (HGV.out.below hbx) (by rw [ht, ByteArray.size_extract]; have := HS.out; omega)
          rw [ht, hSM] at hh
          rw [ht]
          exact hh)
        obtain ⟨Tt, hTt⟩ : ∃ Tt : Int, ((sumV SM.data.toList : Nat) : Int) = Tt := ⟨_, rfl⟩
        have CM := hide (show ∀ w, Calls Tryd.prog 10 #[.string SM] w fun e w' => e = .returned (.int .i64 Tt) ∧ w' = w from fun w => by
          have hh := sum_any SM w (by omega)
          rw [hTt] at hh
          exact hh)
        have hsm : smB s.data.toList ⟨b0, b1, b2, b3, sum, (P : Int), (Q : Int)⟩ = (sum == Tt) := by
          unfold smB dtT
          rw [← hTt, ← hSM, smS_list ⟨b0, b1, b2, b3, sum, (P : Int), (Q : Int)⟩, slice_list _ _ _ (by omega)]
          simp only [Int.toNat_natCast]
          rw [show P + Q - P = Q by omega]
        rw [hsm] at hr
        have y1 : (P : Int) ≤ (P : Int) + (Q : Int) := by omega
        have y2 : (P : Int) + (Q : Int) ≤ (s.size : Int) := by omega
        have y3 : (0 : Int) ≤ (P : Int) := by omega
        have y4 : P ≤ s.size := by omega
        have y5 : P + Q ≤ s.size := by omega
        have y6 : P ≤ P + Q := by omega
        clear hsm hSM hTt hsz hall hbi hgj HALL HR2 c0 c1 c2 c3 c4 c5 c6
        by_cases hq : sum = Tt
        · have hq' : (sum != Tt) = false := by simp [hq]
          rw [show (sum == Tt) = true by simp [hq], if_pos rfl] at hr
          have HR3 := hide hr
          have HQQ := hide hq
          clear hr hq
          go_wp2_with fail
          rename_i kk1
          have HA := hide kk1
          clear kk1
          go_region_held3 (fun x => x.cell? ⟨W1.heap.size, 0, none⟩ = some (.int .u8 (b0.toNat : Int)) ∧ x.cell? ⟨W1.heap.size, 1, none⟩ = some (.int .u8 (b1.toNat : Int)) ∧ x.cell? ⟨W1.heap.size, 2, none⟩ = some (.int .u8 (b2.toNat : Int)) ∧ x.cell? ⟨W1.heap.size, 3, none⟩ = some (.int .u8 (b3.toNat : Int)) ∧ x.cell? ⟨W1.heap.size, 4, none⟩ = some (.int .i64 sum) ∧ x.cell? ⟨W1.heap.size, 5, none⟩ = some (.int .i64 (P : Int)) ∧ x.cell? ⟨W1.heap.size, 6, none⟩ = some (.int .i64 (Q : Int))) (first | exact KS.out _ (below_d HB.out (Below.refl _ _) rfl rfl rfl rfl) | go_keep) ((first | (go_at_call 27; refine (CE.out _).mono ?_; rintro e x ⟨rfl, hbx⟩; replace HB := hide (below_d HB.out hbx rfl rfl rfl rfl); clear hbx) | (go_at_call 48; refine (CS.out _ _ (below_d HB.out (Below.refl _ _) rfl rfl rfl rfl) rfl).mono ?_; rintro e x ⟨rfl, hbx⟩; replace HB := hide (below_d HB.out hbx rfl rfl rfl rfl); clear hbx) | (go_at_call 10; refine (CM.out _).mono ?_; rintro e x ⟨rfl, rfl⟩)))
          all_goals
            refine HA.out _ _ ?_
            go_wp2_with fail
            go_roundg (n - (j + 1))
            case rel => exact ⟨j + 1, E, by go_num, rfl, hide ⟨by have := HGk.out; omega, HR3.out, HBV.out.trans ((below_d HB.out (Below.refl _ _) rfl rfl rfl rfl).mono HBV.out.size)⟩⟩
            case measure => have := HGk.out; omega
        · have hq' : (sum != Tt) = true := by simpa using hq
          rw [show (sum == Tt) = false by simpa using hq, if_neg (by simp)] at hr
          have HR3 := hide hr
          have HQQ := hide hq
          clear hr hq
          go_wp2_with fail
          rename_i kk1
          have HA := hide kk1
          clear kk1
          go_region_held3 (fun x => x.cell? ⟨W1.heap.size, 0, none⟩ = some (.int .u8 (b0.toNat : Int)) ∧ x.cell? ⟨W1.heap.size, 1, none⟩ = some (.int .u8 (b1.toNat : Int)) ∧ x.cell? ⟨W1.heap.size, 2, none⟩ = some (.int .u8 (b2.toNat : Int)) ∧ x.cell? ⟨W1.heap.size, 3, none⟩ = some (.int .u8 (b3.toNat : Int)) ∧ x.cell? ⟨W1.heap.size, 4, none⟩ = some (.int .i64 sum) ∧ x.cell? ⟨W1.heap.size, 5, none⟩ = some (.int .i64 (P : Int)) ∧ x.cell? ⟨W1.heap.size, 6, none⟩ = some (.int .i64 (Q : Int))) (first | exact KS.out _ (below_d HB.out (Below.refl _ _) rfl rfl rfl rfl) | go_keep) ((first | (go_at_call 27; refine (CE.out _).mono ?_; rintro e x ⟨rfl, hbx⟩; replace HB := hide (below_d HB.out hbx rfl rfl rfl rfl); clear hbx) | (go_at_call 48; refine (CS.out _ _ (below_d HB.out (Below.refl _ _) rfl rfl rfl rfl) rfl).mono ?_; rintro e x ⟨rfl, hbx⟩; replace HB := hide (below_d HB.out hbx rfl rfl rfl rfl); clear hbx) | (go_at_call 10; refine (CM.out _).mono ?_; rintro e x ⟨rfl, rfl⟩)))
          all_goals
            refine HA.out _ _ ?_
            go_wp2_with fail
            go_roundg (n - (j + 1))
            case rel => exact ⟨j + 1, 81, by go_num, rfl, hide ⟨by have := HGk.out; omega, HR3.out, HBV.out.trans ((below_d HB.out (Below.refl _ _) rfl rfl rfl rfl).mono HBV.out.size)⟩⟩
            case measure => have := HGk.out; omega
end Go.Proofs.YtgmmhlpdkoiheaaDoor
