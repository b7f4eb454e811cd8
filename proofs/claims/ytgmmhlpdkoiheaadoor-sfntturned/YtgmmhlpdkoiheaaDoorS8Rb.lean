/-
  What the reference's Read answers.
-/
import Derived.Test.YtgmmhlpdkoiheaaDoorS8Ra
import Derived.Test.YtgmmhlpdkoiheaaDoorS8Gr
import Derived.Deep.CutRange
import Derived.WalkLawsBesides
namespace Go.Proofs.YtgmmhlpdkoiheaaDoor
open Go.RowKit Go.Deep
set_option linter.unusedVariables false
set_option linter.unusedSimpArgs false

def aB (ds : List Rw) (r : Rw) : Bool := match ds.getLast? with
  | none => true
  | some p => Op.bytesLess (tgT p) (tgT r)
def refG (N n : Nat) : List Rw → List Rw → Bool
  | _, [] => true
  | ds, r :: rs => goodT r && (aB ds r && (plB N n r && (!(ds.any fun q => meetB r q) && refG N n (ds ++ [r]) rs)))
theorem and6 (a b c d e f : Bool) : (a && (b && (c && (d && (e && f))))) = ((a && (b && e)) && (c && (d && f))) := by
  cases a <;> cases b <;> cases c <;> cases d <;> cases e <;> cases f <;> rfl
theorem refG_rise (N n : Nat) : ∀ (rs ds : List Rw) (p : Rw), refG N n (ds ++ [p]) rs = (riseB (tgT p) rs && okG N n (ds ++ [p]) rs)
  | [], ds, p => rfl
  | r :: rs, ds, p => by
    rw [refG, riseB, okG, refG_rise N n rs (ds ++ [p]) r]
    have : aB (ds ++ [p]) r = Op.bytesLess (tgT p) (tgT r) := by unfold aB; simp
    rw [this]
    exact and6 _ _ _ _ _ _
theorem good_less {r : Rw} (h : goodT r = true) : Op.bytesLess [0, 0, 0, 0] (tgT r) = true := by
  unfold goodT gdB at h
  simp at h
  have h0 : (0 : UInt8) < r.b0 := by rw [UInt8.lt_iff_toNat_lt]; have := h.1.1; simp; omega
  unfold tgT
  simp [Op.bytesLess, h0]
theorem refG_all (N n : Nat) (rs : List Rw) : refG N n [] rs = (riseB [0, 0, 0, 0] rs && okG N n [] rs) := by
  cases rs with
  | nil => rfl
  | cons r rs =>
    have h := refG_rise N n rs [] r
    rw [refG, riseB, okG, List.nil_append] at *
    rw [h]
    have : aB [] r = true := rfl
    rw [this]
    cases hg : goodT r with
    | false => rfl
    | true => rw [good_less hg]; exact and6 _ _ _ _ _ _
theorem nb_num2 (a b : UInt8) : nbT ((numV [a, b] : Nat) : Int) 2 = [a, b] := by
  have ha := a.toNat_lt
  have hb := b.toNat_lt
  have e : numV [a, b] = a.toNat * 256 + b.toNat := by unfold numV; simp
  unfold nbT nbT nbT nbB
  rw [e, show (256 : Int) ^ 1 = 256 from rfl, show (256 : Int) ^ 0 = 1 from rfl, Int.ediv_one]
  rw [show (((a.toNat * 256 + b.toNat : Nat) : Int) / 256 % 256) = (a.toNat : Int) by omega, show (((a.toNat * 256 + b.toNat : Nat) : Int) % 256) = (b.toNat : Int) by omega]
  simp
theorem nb_two (l : List UInt8) (h : l.length = 2) : nbT ((numV l : Nat) : Int) 2 = l := by
  match l, h with
  | [a, b], _ => exact nb_num2 a b
theorem open_iff (l : List UInt8) (h : 12 ≤ l.length) : l.take 12 = openT (nTab l) ↔ l.take 4 = [0, 1, 0, 0] ∧ (l.drop 6).take 6 = srT (nTab l) := by
  have e : l.take 12 = l.take 4 ++ ((l.drop 4).take 2 ++ (l.drop 6).take 6) := by
    rw [show (12 : Nat) = 4 + 8 from rfl, List.take_add, show (8 : Nat) = 2 + 6 from rfl, List.take_add (i := 2), List.drop_drop]
  have e2 : nbT ((nTab l : Nat) : Int) 2 = (l.drop 4).take 2 := by
    unfold nTab
    exact nb_two _ (by rw [List.length_take, List.length_drop]; omega)
  rw [e, openT_eq, e2]
  constructor
  · intro h1
    have h2 := List.append_inj h1 (by rw [List.length_take]; simp; omega)
    exact ⟨h2.1, (List.append_inj h2.2 rfl).2⟩
  · rintro ⟨h1, h2⟩
    rw [h1, h2]
theorem tag_ext (s : ByteArray) (A : Nat) (h : A + 4 ≤ s.size) : s.extract A (A + 4) = ⟨(tgT (rowV (s.data.toList.drop A))).toArray⟩ := by
  have e : (s.extract A (A + 4)).data.toList = tgT (rowV (s.data.toList.drop A)) := by
    rw [slice_list _ _ _ h, show A + 4 - A = 4 by omega]
    have hl : 4 ≤ (s.data.toList.drop A).length := by rw [List.length_drop, ← Lib.size_eq]; omega
    generalize s.data.toList.drop A = L at hl
    match L, hl with
    | a :: b :: c :: d :: r, _ => rfl
  cases hx : s.extract A (A + 4) with
  | mk a => rw [hx] at e; simp at e; rw [← e]
theorem row_nums (l : List UInt8) (A : Nat) (h : A + 16 ≤ l.length) : (rowV (l.drop A)).sum = ((n4 l (A + 4) : Nat) : Int) ∧ (rowV (l.drop A)).pl = ((n4 l (A + 8) : Nat) : Int) ∧ (rowV (l.drop A)).ln = ((n4 l (A + 12) : Nat) : Int) := by
  have e1 := num4 l (A + 4) (by omega)
  have e2 := num4 l (A + 8) (by omega)
  have e3 := num4 l (A + 12) (by omega)
  unfold rowV
  simp only [List.drop_drop]
  rw [e1, e2, e3]
  exact ⟨rfl, rfl, rfl⟩
theorem meet_ref (P Q p q : Nat) (b0 b1 b2 b3 c0 c1 c2 c3 : UInt8) (s1 s2 : Int) : meetB ⟨b0, b1, b2, b3, s1, (P : Int), (Q : Int)⟩ ⟨c0, c1, c2, c3, s2, (p : Int), (q : Int)⟩ = true ↔ 0 < q ∧ 0 < Q ∧ p < P + Q ∧ P < p + q := by
  unfold meetB
  simp only [decide_eq_true_eq]
  omega
theorem smB_eq (s : ByteArray) (b0 b1 b2 b3 : UInt8) (sum : Int) (P Q : Nat) (h : P + Q ≤ s.size) : smB s.data.toList ⟨b0, b1, b2, b3, sum, (P : Int), (Q : Int)⟩ = (sum == ((sumV (smS b0 b1 b2 b3 (s.extract P (P + Q))).data.toList : Nat) : Int)) := by
  unfold smB dtT
  rw [smS_list ⟨b0, b1, b2, b3, sum, (P : Int), (Q : Int)⟩, slice_list _ _ _ h]
  simp only [Int.toNat_natCast]
  rw [show P + Q - P = Q by omega]
theorem aB_take {rs : List Rw} {j : Nat} {p : Rw} (h : rs[j]? = some p) (r : Rw) : aB (rs.take (j + 1)) r = Op.bytesLess (tgT p) (tgT r) := by
  rw [take_at rs j h]
  unfold aB
  simp
theorem leq_run (TG TP : ByteArray) (a b : List UInt8) (ha : TG = ⟨a.toArray⟩) (hb : TP = ⟨b.toArray⟩) : (Op.bytesLess TG.toList TP.toList || TG.toList == TP.toList) = !Op.bytesLess b a := by
  have e1 : TG.toList = a := by rw [Lib.toList_data, ha]
  have e2 : TP.toList = b := by rw [Lib.toList_data, hb]
  rw [e1, e2, less_total]
theorem and_f {a b c d : Bool} (h : (a && (b && c)) = false) : (a && (b && (c && d))) = false := by
  cases a <;> cases b <;> cases c <;> first | rfl | (simp at h)
theorem drewN_below {w w' : World} (h : ∃ n, w' = w.drewN n) : Below w.heap.size w w' := by
  obtain ⟨n, rfl⟩ := h
  exact below_drewN (Below.refl _ _) n
theorem TbRow.at {w : World} {B : Nat} {v : Value} {l : List (ByteArray × ByteArray)} (h : TbRow w B v l) (h0 : 0 < l.length) : ∃ g cap, v = .slice (some ⟨g, 0, none⟩) l.length cap ∧ g < w.heap.size ∧ ∀ i x, l[i]? = some x → w.cell? ⟨g, i * 2, none⟩ = some (.string x.1) ∧ w.cell? ⟨g, i * 2 + 1, none⟩ = some (.string x.2) := by
  have h' := h
  obtain ⟨_, ⟨h1, h2⟩ | ⟨g, cap, cur, hv, _⟩⟩ := h'
  · omega
  · refine ⟨g, cap, hv, ?_, ?_⟩
    · rw [hv] at h; exact (World.ownsRow.lt h g rfl).2
    · intro i x hi
      rw [hv] at h
      have hlt := (List.getElem?_eq_some_iff.1 hi).1
      have key : ∀ (l : List (ByteArray × ByteArray)) (i : Nat) (x : ByteArray × ByteArray), l[i]? = some x → (tcs l)[i * 2]? = some (.string x.1) ∧ (tcs l)[i * 2 + 1]? = some (.string x.2) := by
        intro l
        induction l with
        | nil => intro i x h; simp at h
        | cons y l ih =>
          intro i x h
          cases i with
          | zero => simp at h; subst h; exact ⟨rfl, rfl⟩
          | succ i =>
            have := ih i x (by simpa using h)
            rw [show (i + 1) * 2 = i * 2 + 2 by omega]
            exact this
      obtain ⟨k1, k2⟩ := key l i x hi
      exact ⟨by rw [TbRow.cell h (i * 2) (by omega)]; exact k1, by rw [TbRow.cell h (i * 2 + 1) (by omega)]; exact k2⟩
set_option maxRecDepth 8000 in
set_option maxHeartbeats 8000000 in
theorem rread_gen (s : ByteArray) (w : World) (hs : s.size ≤ 9223372036854775807) : Calls Tryd.prog 14 #[.string s] w (RdR w s) := by
  have hlen : s.data.toList.length = s.size := (Lib.size_eq s).symm
  have hs9 : (s.size : Int) ≤ 9223372036854775807 := by omega
  by_cases hb0 : 1048576 < s.size
  · have hb' : (1048576 : Int) < (s.size : Int) := by omega
    have e : errV s.data.toList = 2 := by unfold errV; rw [if_pos (by omega)]
    have HE := hide e
    have HT := hide (tabV_no (s := s) (by rw [e]; decide))
    clear hlen hs hb0 e
    go_enter Tryd.func14, Tryd.ntmps14
    go_wp2_with fail
    go_ret2
    exact ⟨_, by rw [HE.out]; rfl, by rw [HT.out]; exact TbRow.nil _ _, Below.refl _ _⟩
  have hb' : ¬ (1048576 : Int) < (s.size : Int) := by omega
  have hs1 : (s.size : Int) ≤ 1048576 := by omega
  by_cases h12 : s.size < 12
  · have h12' : (s.size : Int) < 12 := by omega
    have CU := hide (fun w => ru2_z s 4 4 w rfl (by omega) (by omega))
    have e : errV s.data.toList = 80 := by unfold errV; rw [if_neg (by omega), hd_no (fun h => by omega)]; rfl
    have HE := hide e
    have HT := hide (tabV_no (s := s) (by rw [e]; decide))
    clear hlen hs hb0 e h12
    go_enter Tryd.func14, Tryd.ntmps14
    go_wp2_with (go_at_call 28; refine (CU.out _).mono ?_; rintro e w1 ⟨y, rfl, y1, y2, m, hw1⟩; subst hw1; clear y2)
    rename_i kk0
    have HA := hide kk0
    clear kk0
    go_quiet (fail)
    refine HA.out _ _ ?_
    go_wp2_with fail
    go_ret2
    exact ⟨_, by rw [HE.out]; rfl, by rw [HT.out]; exact TbRow.nil _ _, below_drewN (below_drewN (Below.refl _ _) _) _⟩
  have h12' : ¬ (s.size : Int) < 12 := by omega
  have h12d : decide ((s.size : Int) < 12) = false := by simpa using h12'
  have z4 : (4 : Int) ≤ (s.size : Int) := by omega
  have z4' : 4 ≤ s.size := by omega
  have z12 : (12 : Int) ≤ (s.size : Int) := by omega
  have z12' : 12 ≤ s.size := by omega
  obtain ⟨n, hn⟩ : ∃ n, nTab s.data.toList = n := ⟨_, rfl⟩
  have hnn : n2 s.data.toList 4 = n := by rw [← hn]; unfold nTab; rw [num2 _ _ (by omega)]
  have hn16 : (n : Int) ≤ 65535 := by have := n2_lt s.data.toList 4; omega
  have CU := hide (fun w => ru2_any s 4 4 w rfl (by omega) (by omega))
  rw [hnn] at CU
  have e4 : (s.extract 0 4).toList = s.data.toList.take 4 := by rw [Lib.toList_data, slice_list _ _ _ z4', List.drop_zero]
  have hoi := open_iff s.data.toList (by omega)
  rw [hn] at hoi
  by_cases q0 : s.data.toList.take 4 = [0, 1, 0, 0]
  case neg =>
    have q0' : ((s.extract 0 4).toList == [0, 1, 0, 0]) = false := by rw [e4]; simpa using q0
    have e : errV s.data.toList = 80 := by unfold errV; rw [if_neg (by omega), hd_no (fun h => by rw [hn] at h; exact q0 (hoi.1 h.2.2.2.1).1)]; rfl
    have HE := hide e
    have HT := hide (tabV_no (s := s) (by rw [e]; decide))
    clear hlen hs hb0 e h12 q0 hoi e4 hnn hn
    go_enter Tryd.func14, Tryd.ntmps14
    go_wp2_with (go_at_call 28; refine (CU.out _).mono ?_; rintro e w1 ⟨rfl, m, hw1⟩; subst hw1)
    rename_i kk0
    have HA := hide kk0
    clear kk0
    go_quiet (fail)
    refine HA.out _ _ ?_
    go_wp2_with fail
    go_ret2
    exact ⟨_, by rw [HE.out]; rfl, by rw [HT.out]; exact TbRow.nil _ _, below_drewN (below_drewN (Below.refl _ _) _) _⟩
  have q0' : ((s.extract 0 4).toList == [0, 1, 0, 0]) = true := by rw [e4]; simpa using q0
  by_cases q1 : n < 1
  · have q1' : (n : Int) < 1 := by omega
    have e : errV s.data.toList = 80 := by unfold errV; rw [if_neg (by omega), hd_no (fun h => by rw [hn] at h; omega)]; rfl
    have HE := hide e
    have HT := hide (tabV_no (s := s) (by rw [e]; decide))
    clear hlen hs hb0 e h12 q0 hoi e4 hnn hn q1
    go_enter Tryd.func14, Tryd.ntmps14
    go_wp2_with (go_at_call 28; refine (CU.out _).mono ?_; rintro e w1 ⟨rfl, m, hw1⟩; subst hw1)
    rename_i kk0
    have HA := hide kk0
    clear kk0
    go_quiet (fail)
    refine HA.out _ _ ?_
    go_wp2_with fail
    go_ret2
    exact ⟨_, by rw [HE.out]; rfl, by rw [HT.out]; exact TbRow.nil _ _, below_drewN (below_drewN (Below.refl _ _) _) _⟩
  have q1' : ¬ (n : Int) < 1 := by omega
  have q1d : decide ((n : Int) < 1) = false := by simpa using q1'
  by_cases q2 : 32 < n
  · have q2' : (32 : Int) < (n : Int) := by omega
    have e : errV s.data.toList = 80 := by unfold errV; rw [if_neg (by omega), hd_no (fun h => by rw [hn] at h; omega)]; rfl
    have HE := hide e
    have HT := hide (tabV_no (s := s) (by rw [e]; decide))
    clear hlen hs hb0 e h12 q0 hoi e4 hnn hn q1 q2
    go_enter Tryd.func14, Tryd.ntmps14
    go_wp2_with (go_at_call 28; refine (CU.out _).mono ?_; rintro e w1 ⟨rfl, m, hw1⟩; subst hw1)
    rename_i kk0
    have HA := hide kk0
    clear kk0
    go_quiet (fail)
    refine HA.out _ _ ?_
    go_wp2_with fail
    go_ret2
    exact ⟨_, by rw [HE.out]; rfl, by rw [HT.out]; exact TbRow.nil _ _, below_drewN (below_drewN (Below.refl _ _) _) _⟩
  have q2' : ¬ (32 : Int) < (n : Int) := by omega
  have q2d : decide ((32 : Int) < (n : Int)) = false := by simpa using q2'
  by_cases q3 : s.size < 12 + 16 * n
  · have q3' : (s.size : Int) < 12 + 16 * (n : Int) := by omega
    have e : errV s.data.toList = 80 := by unfold errV; rw [if_neg (by omega), hd_no (fun h => by rw [hn] at h; omega)]; rfl
    have HE := hide e
    have HT := hide (tabV_no (s := s) (by rw [e]; decide))
    clear hlen hs hb0 e h12 q0 hoi e4 hnn hn q1 q2 q3
    go_enter Tryd.func14, Tryd.ntmps14
    go_wp2_with (go_at_call 28; refine (CU.out _).mono ?_; rintro e w1 ⟨rfl, m, hw1⟩; subst hw1)
    rename_i kk0
    have HA := hide kk0
    clear kk0
    go_quiet (fail)
    refine HA.out _ _ ?_
    go_wp2_with fail
    go_ret2
    exact ⟨_, by rw [HE.out]; rfl, by rw [HT.out]; exact TbRow.nil _ _, below_drewN (below_drewN (Below.refl _ _) _) _⟩
  have q3' : ¬ (s.size : Int) < 12 + 16 * (n : Int) := by omega
  have q3d : decide ((s.size : Int) < 12 + 16 * (n : Int)) = false := by simpa using q3'
  have CSr := hide (fun w => rsearch_any n w (by omega) (by omega))
  obtain ⟨ST, hST⟩ : ∃ ST : ByteArray, (⟨(srT n).toArray⟩ : ByteArray) = ST := ⟨_, rfl⟩
  rw [hST] at CSr
  have w1 : IntKind.i64.wrap (16 * (n : Int)) = 16 * (n : Int) := by rw [IntKind.wrap_i64]; omega
  have w2 : IntKind.i64.wrap (12 + 16 * (n : Int)) = 12 + 16 * (n : Int) := by rw [IntKind.wrap_i64]; omega
  have HB := hide (Below.refl w.heap.size w)
  by_cases q4 : (s.data.toList.drop 6).take 6 = srT n
  case neg =>
    have q4' : ((s.extract 6 12).toList == ST.toList) = false := by
      rw [← hST, Lib.toList_data, Lib.toList_data, slice_list _ _ _ z12']
      simpa using q4
    have e : errV s.data.toList = 80 := by unfold errV; rw [if_neg (by omega), hd_no (fun h => by rw [hn] at h; exact q4 (hoi.1 h.2.2.2.1).2)]; rfl
    have HE := hide e
    have HT := hide (tabV_no (s := s) (by rw [e]; decide))
    clear hlen hs hb0 e h12 q0 hoi e4 hnn hn q1 q2 q3 q4 hST
    go_enter Tryd.func14, Tryd.ntmps14
    go_wp2_with (go_at_call 28; refine (CU.out _).mono ?_; rintro e w1 ⟨rfl, m, hw1⟩; subst hw1)
    rename_i kk0
    have HA := hide kk0
    clear kk0
    go_region_held3 (fun _ => True) (first | trivial | go_keep) ((go_at_call 29; refine (CSr.out _).mono ?_; rintro e x ⟨rfl, hbx⟩; replace HB := hide (below_d HB.out hbx rfl rfl rfl rfl); clear hbx))
    all_goals
      refine HA.out _ _ ?_
      go_wp2_with fail
      go_ret2
      exact ⟨_, by rw [HE.out]; rfl, by rw [HT.out]; exact TbRow.nil _ _, below_d HB.out (Below.refl _ _) rfl rfl rfl rfl⟩
  have q4' : ((s.extract 6 12).toList == ST.toList) = true := by
    rw [← hST, Lib.toList_data, Lib.toList_data, slice_list _ _ _ z12']
    simpa using q4
  have hhd : hdB s.data.toList = true := hd_yes ⟨by omega, by omega, by omega, by rw [hn]; exact hoi.2 ⟨q0, q4⟩, by rw [hn]; omega⟩
  obtain ⟨rs, hrs⟩ : ∃ rs, rowsV s.data.toList n = rs := ⟨_, rfl⟩
  obtain ⟨R, hR⟩ : ∃ R, refG s.size n [] rs = R := ⟨_, rfl⟩
  have hE : errV s.data.toList = if R then (if rs.all (smB s.data.toList) then 0 else 81) else 80 := by
    unfold errV
    rw [if_neg (by omega), hhd, hn, hrs, hlen, fauG_eq, ← hR, refG_all]
    cases riseB [0, 0, 0, 0] rs with
    | false => rfl
    | true => rfl
  have HE := hide hE
  have HTN := hide (fun h => tabV_no (s := s) h)
  have HTV : Hid (errV s.data.toList = 0 → tabV s = rs.map (tbOf s)) := hide (fun h => by unfold tabV; rw [if_pos h, hn, hrs])
  have HNL : Hid (rs.length = n) := hide (by rw [← hrs]; exact rowsV_len _ _)
  have HAT : Hid (∀ k, k < n → rs[k]? = some (rowV (s.data.toList.drop (12 + 16 * k)))) := hide (fun k hk => by rw [← hrs]; exact rowsV_at _ _ _ hk)
  have HSZ := hide (show s.data.toList.length = s.size ∧ 12 + 16 * n ≤ s.size ∧ n ≤ 32 ∧ s.size ≤ 1048576 from ⟨hlen, by omega, by omega, by omega⟩)
  have HPL : Hid (R = true → ∀ r ∈ rs, r.pl + r.ln ≤ s.size) := hide (fun h r hr => by
    rw [← hR, refG_all, Bool.and_eq_true] at h
    have h2 := okG_pl s.size n rs [] h.2 r hr
    unfold plB at h2
    rw [Bool.and_eq_true, Bool.and_eq_true, decide_eq_true_eq, decide_eq_true_eq, decide_eq_true_eq] at h2
    exact h2.2.2)
  have HR := hide hR
  have CU4 := hide (fun (k : Nat) (z : Int) (w : World) (hz : z = (k : Int)) (h : k + 4 ≤ s.size) => (ru4_any s k z w hz h (by omega)).mono fun e w' (h : _ ∧ _) => (⟨h.1, drewN_below h.2⟩ : e = .returned (.int .i64 ((n4 s.data.toList k : Nat) : Int)) ∧ Below w.heap.size w w'))
  clear hlen hs hb0 h12 q0 hoi e4 hnn hn q1 q2 q3 q4 hST hhd hrs hR hE
  go_enter Tryd.func14, Tryd.ntmps14
  go_wp2_with (go_at_call 28; refine (CU.out _).mono ?_; rintro e w1 ⟨rfl, m, hw1⟩; subst hw1)
  rename_i kk0
  have HA := hide kk0
  clear kk0
  go_region_held3 (fun _ => True) (first | trivial | go_keep) ((go_at_call 29; refine (CSr.out _).mono ?_; rintro e x ⟨rfl, hbx⟩; replace HB := hide (below_d HB.out hbx rfl rfl rfl rfl); clear hbx))
  refine HA.out _ _ ?_
  clear HA
  have hx0 := below_d HB.out (Below.refl x.heap.size x) rfl rfl rfl rfl
  have HX0 := hide hx0
  clear hx0 HB q0' q1' q1d q2d q3d q4' h12d z4 z4' z12 z12'
  go_wp2_with fail
  go_loopw [5, 6] (fun vt vi wr => ∃ k : Nat, vi = .int .i64 k ∧ Hid (k ≤ n ∧ TbRow wr w.heap.size vt ((rs.take k).map (tbOf s)) ∧ refG s.size n (rs.take k) (rs.drop k) = R ∧ Below w.heap.size w wr)) (fun _ vi _ => n - (intOf vi).toNat)
  case atStart => exact ⟨0, rfl, hide ⟨by omega, TbRow.nil _ _, by rw [List.drop_zero]; exact HR.out, HX0.out⟩⟩
  case round =>
    obtain ⟨W1, hW1⟩ : ∃ W1, W1 = wr := ⟨_, rfl⟩
    subst hW1
    obtain ⟨vt, hvt0⟩ : ∃ vt, vt = u5 := ⟨_, rfl⟩
    subst hvt0
    obtain ⟨k, rfl, HV⟩ := hrel
    obtain ⟨hk, hT, hr, hbw⟩ := HV.out
    have hk0 : (0 : Int) ≤ (k : Int) := by omega
    clear HV
    by_cases hlt : k < n
    case neg =>
      have hlt' : ¬ (k : Int) < (n : Int) := by omega
      obtain rfl : k = n := by omega
      have e : R = true := by rw [← hr, List.drop_eq_nil_of_le (by have := HNL.out; omega)]; rfl
      subst e
      rw [List.take_of_length_le (by rw [HNL.out]; omega)] at hT
      have HT0 := hide hT
      have HBW := hide hbw
      clear hr hbw hT hlt
      go_wp2_with fail
      go_loopw [14] (fun vi wi => ∃ i : Nat, vi = .int .i64 i ∧ Hid (i ≤ k ∧ (∀ j, j < i → ∀ q, rs[j]? = some q → smB s.data.toList q = true) ∧ TbRow wi w.heap.size vt (rs.map (tbOf s)) ∧ Below w.heap.size w wi)) (fun vi _ => k - (intOf vi).toNat)
      case atStart => exact ⟨0, rfl, hide ⟨by omega, fun j hj => by omega, HT0.out, HBW.out⟩⟩
      case round =>
        clear HT0 HBW
        obtain ⟨i, rfl, HV⟩ := hrel
        obtain ⟨hi, hall, hT, hbw⟩ := HV.out
        have hi0 : (0 : Int) ≤ (i : Int) := by omega
        clear HV
        by_cases hik : i < k
        case neg =>
          have hik' : ¬ (i : Int) < (k : Int) := by omega
          have e : errV s.data.toList = 0 := by
            rw [HE.out]
            simp only [if_true]
            rw [if_pos]
            rw [List.all_eq_true]
            intro q hq
            obtain ⟨j, hj, rfl⟩ := List.getElem_of_mem hq
            exact hall j (by have := HNL.out; omega) _ (List.getElem?_eq_getElem hj)
          rw [← HTV.out e] at hT
          have HE0 := hide e
          have HT1 := hide hT
          have HBW := hide hbw
          clear hall hT hbw e hik
          go_wp2_with fail
          go_ret2
          exact ⟨_, by rw [HE0.out]; rfl, HT1.out, HBW.out⟩
        have hik' : (i : Int) < (k : Int) := by omega
        have hz := HSZ.out
        obtain ⟨A, hA⟩ : ∃ A : Nat, A = 12 + 16 * i := ⟨_, rfl⟩
        have hAi : (12 : Int) + 16 * (i : Int) = (A : Int) := by omega
        have hx := HAT.out i hik
        rw [← hA] at hx
        obtain ⟨r, hr⟩ : ∃ r, rowV (s.data.toList.drop A) = r := ⟨_, rfl⟩
        have hrn := row_nums s.data.toList A (by omega)
        have hrk := rowV_ok (s.data.toList.drop A)
        rw [hr] at hx hrn hrk
        obtain ⟨g, cap, hv, hgl, hcell⟩ := hT.at (by rw [List.length_map, HNL.out]; omega)
        obtain ⟨c0, c1⟩ := hcell i (tbOf s r) (by rw [List.getElem?_map, hx]; rfl)
        rw [List.length_map, HNL.out] at hv
        obtain ⟨b0, b1, b2, b3, sum, pl, ln⟩ := r
        obtain ⟨⟨o1, o2⟩, ⟨o3, o4⟩, ⟨o5, o6⟩⟩ := hrk
        simp only at o1 o2 o3 o4 o5 o6 hrn
        obtain ⟨P, rfl⟩ : ∃ P : Nat, pl = (P : Int) := ⟨pl.toNat, by omega⟩
        obtain ⟨Q, rfl⟩ : ∃ Q : Nat, ln = (Q : Int) := ⟨ln.toNat, by omega⟩
        unfold tbOf tgT at c0 c1
        simp only [Int.toNat_natCast] at c0 c1
        have CSu := hide (show ∀ z w, z = ((A + 4 : Nat) : Int) → Calls Tryd.prog 30 #[.string s, .int .i64 z] w fun e w' => e = .returned (.int .i64 sum) ∧ ∃ n, w' = w.drewN n from fun z w hz2 => by
          have h := ru4_any s (A + 4) z w hz2 (by omega) (by omega)
          rw [← hrn.1] at h
          exact h)
        obtain ⟨D, hD⟩ : ∃ D, s.extract P (P + Q) = D := ⟨_, rfl⟩
        rw [hD] at c1
        have hDs : D.size ≤ 1048576 := by rw [← hD, ByteArray.size_extract]; omega
        obtain ⟨SM, hSM⟩ : ∃ SM, smS b0 b1 b2 b3 D = SM := ⟨_, rfl⟩
        have CO := hide (fun w => rowned_any b0 b1 b2 b3 D w (by omega))
        rw [hSM] at CO
        obtain ⟨Tt, hTt⟩ : ∃ Tt : Int, ((sumV SM.data.toList : Nat) : Int) = Tt := ⟨_, rfl⟩
        have CM := hide (fun w => rsum_any SM w (by rw [← hSM, smS_size]; omega))
        rw [hTt] at CM
        have hPQ : P + Q ≤ s.size := by
          have := HPL.out (by simp) _ (List.mem_of_getElem? hx)
          simp only at this
          omega
        have hsm := smB_eq s b0 b1 b2 b3 sum P Q hPQ
        rw [hD, hSM, hTt] at hsm
        obtain ⟨TG, hTG⟩ : ∃ TG, TG = tgS b0 b1 b2 b3 := ⟨_, rfl⟩
        have c0' : wr.cell? ⟨g, i * 2, none⟩ = some (.string TG) := by rw [hTG]; exact c0
        rw [← hTG] at CO
        have w3 : IntKind.i64.wrap (16 * (i : Int)) = 16 * (i : Int) := by rw [IntKind.wrap_i64]; omega
        have w4 : IntKind.i64.wrap (A : Int) = (A : Int) := by rw [IntKind.wrap_i64]; omega
        have w5 : IntKind.i64.wrap ((A : Int) + 4) = (A : Int) + 4 := by rw [IntKind.wrap_i64]; omega
        have HALL := hide hall
        have HT1 := hide hT
        have HBW := hide hbw
        have HXX := hide hx
        have hA1 : (A : Int) ≤ 1000 := by omega
        clear hall hT hbw hx hcell c0 hTG hD hSM hTt hDs hPQ hz hA hrn hr
        subst hv
        by_cases hq : sum = Tt
        · have hq' : (sum != Tt) = false := by simp [hq]
          have HNEXT : Hid (∀ j, j < i + 1 → ∀ q, rs[j]? = some q → smB s.data.toList q = true) := hide (fun j hj q hqq => by
            rcases Nat.lt_or_ge j i with h' | h'
            · exact HALL.out j h' q hqq
            · obtain rfl : j = i := by omega
              rw [HXX.out] at hqq; injection hqq with hqq; rw [← hqq, hsm]; simpa using hq)
          clear hq hsm HALL HXX
          go_wp2_with fail
          rename_i kk1
          have HA := hide kk1
          clear kk1
          go_quiet ((first | (go_at_call 30; exact Calls.quiet_of (CSu.out _ _ (by omega))) | (go_at_call 32; exact Calls.quiet_of (CO.out _)) | (go_at_call 11; exact Calls.quiet_of_same (CM.out _))))
          refine HA.out _ _ ?_
          go_wp2_with fail
          go_roundw
          case rel => exact ⟨i + 1, by go_num, hide ⟨by omega, HNEXT.out, HT1.out, below_drewN HBW.out _⟩⟩
          case measure => simp [intOf]; omega
        · have hq' : (sum != Tt) = true := by simpa using hq
          have e : errV s.data.toList = 81 := by
            rw [HE.out]
            simp only [if_true]
            rw [if_neg]
            intro h
            rw [List.all_eq_true] at h
            have h2 := h _ (List.mem_of_getElem? HXX.out)
            rw [hsm] at h2
            exact hq (by simpa using h2)
          have HE8 := hide e
          have HT8 := hide (HTN.out (by rw [e]; decide))
          clear hq hsm HALL HXX e
          go_wp2_with fail
          rename_i kk1
          have HA := hide kk1
          clear kk1
          go_quiet ((first | (go_at_call 30; exact Calls.quiet_of (CSu.out _ _ (by omega))) | (go_at_call 32; exact Calls.quiet_of (CO.out _)) | (go_at_call 11; exact Calls.quiet_of_same (CM.out _))))
          refine HA.out _ _ ?_
          go_wp2_with fail
          go_ret2
          exact ⟨_, by rw [HE8.out]; rfl, by rw [HT8.out]; exact TbRow.nil _ _, below_drewN HBW.out _⟩
    have hlt' : (k : Int) < (n : Int) := by omega
    have hz := HSZ.out
    obtain ⟨A, hA⟩ : ∃ A : Nat, A = 12 + 16 * k := ⟨_, rfl⟩
    have hAi : (12 : Int) + 16 * (k : Int) = (A : Int) := by omega
    have hx := HAT.out k hlt
    rw [← hA] at hx
    have htg := tag_ext s A (by omega)
    obtain ⟨r, hr0⟩ : ∃ r, rowV (s.data.toList.drop A) = r := ⟨_, rfl⟩
    have hrn := row_nums s.data.toList A (by omega)
    have hrk := rowV_ok (s.data.toList.drop A)
    rw [hr0] at hx hrn hrk htg
    rw [drop_at rs k hx, refG, ← take_at rs k hx] at hr
    have HTK := hide (take_at rs k hx)
    obtain ⟨b0, b1, b2, b3, sum, pl, ln⟩ := r
    obtain ⟨⟨o1, o2⟩, ⟨o3, o4⟩, ⟨o5, o6⟩⟩ := hrk
    simp only at o1 o2 o3 o4 o5 o6 hrn
    obtain ⟨P, rfl⟩ : ∃ P : Nat, pl = (P : Int) := ⟨pl.toNat, by omega⟩
    obtain ⟨Q, rfl⟩ : ∃ Q : Nat, ln = (Q : Int) := ⟨ln.toNat, by omega⟩
    have p4 : (P : Int) ≤ 4294967295 := by have := n4_lt s.data.toList (A + 8); omega
    have p5 : (Q : Int) ≤ 4294967295 := by have := n4_lt s.data.toList (A + 12); omega
    obtain ⟨TG, hTG⟩ : ∃ TG, TG = tgS b0 b1 b2 b3 := ⟨_, rfl⟩
    have hx4 : s.extract A (A + 4) = TG := by rw [htg, hTG]; rfl
    have CP := hide (show ∀ z w, z = ((A + 8 : Nat) : Int) → Calls Tryd.prog 30 #[.string s, .int .i64 z] w fun e w' => e = .returned (.int .i64 (P : Int)) ∧ Below w.heap.size w w' from fun z w hz2 => by
      have h := CU4.out (A + 8) z w hz2 (by omega)
      rw [← hrn.2.1] at h
      exact h)
    have CQ := hide (show ∀ z w, z = ((A + 12 : Nat) : Int) → Calls Tryd.prog 30 #[.string s, .int .i64 z] w fun e w' => e = .returned (.int .i64 (Q : Int)) ∧ Below w.heap.size w w' from fun z w hz2 => by
      have h := CU4.out (A + 12) z w hz2 (by omega)
      rw [← hrn.2.2] at h
      exact h)
    have CT := hide (fun w => rtag_any b0 b1 b2 b3 w)
    rw [← hTG] at CT
    have w3 : IntKind.i64.wrap (16 * (k : Int)) = 16 * (k : Int) := by rw [IntKind.wrap_i64]; omega
    have w4 : IntKind.i64.wrap (A : Int) = (A : Int) := by rw [IntKind.wrap_i64]; omega
    have w5 : IntKind.i64.wrap ((A : Int) + 4) = (A : Int) + 4 := by rw [IntKind.wrap_i64]; omega
    have w6 : IntKind.i64.wrap ((A : Int) + 8) = (A : Int) + 8 := by rw [IntKind.wrap_i64]; omega
    have w7 : IntKind.i64.wrap ((A : Int) + 12) = (A : Int) + 12 := by rw [IntKind.wrap_i64]; omega
    have t1 : ((A : Int) + 4).toNat = A + 4 := by omega
    have t2 : (A : Int) + 4 ≤ (s.size : Int) := by omega
    have t3 : (A : Int) ≤ (A : Int) + 4 := by omega
    have t4 : (0 : Int) ≤ (A : Int) := by omega
    have t5 : A + 4 ≤ s.size := by omega
    have t6 : A ≤ A + 4 := by omega
    have hA1 : (A : Int) ≤ 1000 := by omega
    have HTG := hide hTG
    have HT1 := hide hT
    have HBW := hide hbw
    have HXX := hide hx
    have HRR := hide hr
    have HAk := hide hA
    have HB := hide (Below.refl W1.heap.size W1)
    clear hr hT hbw hx htg hTG hrn hr0 hz hA
    go_wp2_with fail
    rename_i kk1
    have HA := hide kk1
    clear kk1
    go_region_held3 (fun _ => True) (first | trivial | go_keep) ((go_at_call 30; first | (refine (CP.out _ _ (by omega)).mono ?_; rintro e x ⟨rfl, hbx⟩; replace HB := hide (below_d HB.out hbx rfl rfl rfl rfl); clear hbx) | (refine (CQ.out _ _ (by omega)).mono ?_; rintro e x ⟨rfl, hbx⟩; replace HB := hide (below_d HB.out hbx rfl rfl rfl rfl); clear hbx)))
    refine HA.out _ _ ?_
    clear HA
    have hbx : Below W1.heap.size W1 x := below_d HB.out (Below.refl x.heap.size x) rfl rfl rfl rfl
    have HTX := hide (HT1.out.later hbx)
    have HBX := hide (HBW.out.trans (hbx.mono HBW.out.size))
    clear hbx HB HT1 HBW w5 w6 w7 t1 t2 t3 t4 t5 t6 hx4 CP CQ
    obtain ⟨BB, hBB⟩ : ∃ BB, (goodT ⟨b0, b1, b2, b3, sum, (P : Int), (Q : Int)⟩ && (aB (rs.take k) ⟨b0, b1, b2, b3, sum, (P : Int), (Q : Int)⟩ && plB s.size n ⟨b0, b1, b2, b3, sum, (P : Int), (Q : Int)⟩)) = BB := ⟨_, rfl⟩
    obtain ⟨NB', hNB⟩ : ∃ NB', NB' = !BB := ⟨_, rfl⟩
    go_upto_region 12 with (fail)
    go_cut [108] from 72 to 107 (fun s108 wc => s108 = .bool NB' ∧ wc = x)
    case first =>
      obtain ⟨hTx⟩ := And.intro HTX.out trivial
      cases hg : (gdB b0 && (gdB b1 && (gdB b2 && gdB b3))) with
      | false =>
        have e : BB = false := by rw [← hBB]; unfold goodT; simp only; rw [hg]; rfl
        subst e
        subst hNB
        rw [hg] at CT
        clear hTx hBB
        go_wp2_with (go_at_call 31; refine (CT.out _).mono ?_; rintro e wy ⟨rfl, hy⟩; subst wy)
        go_meet
        exact ⟨rfl, rfl⟩
      | true =>
      rw [hg] at CT
      have hB2 : (aB (rs.take k) ⟨b0, b1, b2, b3, sum, (P : Int), (Q : Int)⟩ && plB s.size n ⟨b0, b1, b2, b3, sum, (P : Int), (Q : Int)⟩) = BB := by rw [← hBB]; unfold goodT; simp only; rw [hg]; rfl
      clear hBB hg
      by_cases hk1 : 0 < k
      case neg =>
        have hk1' : ¬ (0 : Int) < (k : Int) := by omega
        have ea : aB (rs.take k) ⟨b0, b1, b2, b3, sum, (P : Int), (Q : Int)⟩ = true := by rw [show k = 0 by omega]; rfl
        rw [ea, Bool.true_and] at hB2
        clear ea hk1 hTx
        by_cases p1 : (P : Int) % 4 = 0
        case neg =>
          have p1' : ((P : Int) % 4 != 0) = true := by simpa using p1
          have e : BB = false := by
            rw [← hB2]; unfold plB; simp only; rw [show decide ((P : Int) % 4 = 0) = false by simpa using p1]; rfl
          subst e
          subst hNB
          go_wp2_with (go_at_call 31; refine (CT.out _).mono ?_; rintro e wy ⟨rfl, hy⟩; subst wy)
          go_meet
          exact ⟨rfl, rfl⟩
        have p1' : ((P : Int) % 4 != 0) = false := by simpa using p1
        by_cases p2 : (P : Int) < 12 + 16 * (n : Int)
        case pos =>
          have e : BB = false := by
            rw [← hB2]; unfold plB; simp only; rw [show decide ((12 : Int) + 16 * (n : Int) ≤ (P : Int)) = false by rw [decide_eq_false_iff_not]; omega]; simp
          subst e
          subst hNB
          go_wp2_with (go_at_call 31; refine (CT.out _).mono ?_; rintro e wy ⟨rfl, hy⟩; subst wy)
          go_meet
          exact ⟨rfl, rfl⟩
        by_cases p3 : (s.size : Int) < (P : Int) + (Q : Int)
        case pos =>
          have e : BB = false := by
            rw [← hB2]; unfold plB; simp only; rw [show decide ((P : Int) + (Q : Int) ≤ (s.size : Int)) = false by rw [decide_eq_false_iff_not]; omega]; simp
          subst e
          subst hNB
          go_wp2_with (go_at_call 31; refine (CT.out _).mono ?_; rintro e wy ⟨rfl, hy⟩; subst wy)
          go_meet
          exact ⟨rfl, rfl⟩
        have p2d : decide ((P : Int) < 12 + 16 * (n : Int)) = false := by simpa using p2
        have p3d : decide ((s.size : Int) < (P : Int) + (Q : Int)) = false := by simpa using p3
        have e : BB = true := by
          rw [← hB2]; unfold plB; simp only
          rw [Bool.and_eq_true, Bool.and_eq_true, decide_eq_true_eq, decide_eq_true_eq, decide_eq_true_eq]
          exact ⟨p1, by omega, by omega⟩
        subst e
        subst hNB
        go_wp2_with (go_at_call 31; refine (CT.out _).mono ?_; rintro e wy ⟨rfl, hy⟩; subst wy)
        go_meet
        exact ⟨rfl, rfl⟩
      case pos =>
        have hk1' : (0 : Int) < (k : Int) := by omega
        obtain ⟨j, hj⟩ : ∃ j, k = j + 1 := ⟨k - 1, by omega⟩
        obtain ⟨p, hp⟩ : ∃ p, rs[j]? = some p := ⟨_, List.getElem?_eq_getElem (by have := HNL.out; omega)⟩
        obtain ⟨g, cap, hv, hgl, hcell⟩ := hTx.at (by rw [List.length_map, List.length_take, HNL.out]; omega)
        obtain ⟨c0, c1⟩ := hcell j (tbOf s p) (by rw [List.getElem?_map, List.getElem?_take, if_pos (by omega), hp]; rfl)
        rw [List.length_map, List.length_take, HNL.out, Nat.min_eq_left (by omega)] at hv
        have ea : aB (rs.take k) ⟨b0, b1, b2, b3, sum, (P : Int), (Q : Int)⟩ = Op.bytesLess (tgT p) [b0, b1, b2, b3] := by rw [hj]; exact aB_take hp _
        obtain ⟨TP, hTP⟩ : ∃ TP : ByteArray, TP = ⟨(tgT p).toArray⟩ := ⟨_, rfl⟩
        have c0' : x.cell? ⟨g, j * 2, none⟩ = some (.string TP) := by rw [hTP]; exact c0
        have hle := leq_run TG TP [b0, b1, b2, b3] (tgT p) HTG.out hTP
        rw [ea] at hB2
        generalize Op.bytesLess (tgT p) [b0, b1, b2, b3] = LB at hle hB2
        have hkj : (k : Int) - 1 = (j : Int) := by omega
        have hj0 : (0 : Int) ≤ (j : Int) := by omega
        have hjk : (j : Int) < (k : Int) := by omega
        have hjk2 : j < k := by omega
        have wj : IntKind.i64.wrap (j : Int) = (j : Int) := by rw [IntKind.wrap_i64]; omega
        clear hcell c0 c1 ea hTx hp hTP hj hk1
        subst hv
        cases LB with
        | false =>
          have e : BB = false := by rw [← hB2]; rfl
          subst e
          subst hNB
          simp only [Bool.not_false] at hle
          go_wp2_with (go_at_call 31; refine (CT.out _).mono ?_; rintro e wy ⟨rfl, hy⟩; subst wy)
          go_meet
          exact ⟨rfl, rfl⟩
        | true =>
        rw [Bool.not_true, Bool.or_eq_false_iff] at hle
        obtain ⟨hle1, hle2⟩ := hle
        rw [Bool.true_and] at hB2
        by_cases p1 : (P : Int) % 4 = 0
        case neg =>
          have p1' : ((P : Int) % 4 != 0) = true := by simpa using p1
          have e : BB = false := by
            rw [← hB2]; unfold plB; simp only; rw [show decide ((P : Int) % 4 = 0) = false by simpa using p1]; rfl
          subst e
          subst hNB
          go_wp2_with (go_at_call 31; refine (CT.out _).mono ?_; rintro e wy ⟨rfl, hy⟩; subst wy)
          go_meet
          exact ⟨rfl, rfl⟩
        have p1' : ((P : Int) % 4 != 0) = false := by simpa using p1
        by_cases p2 : (P : Int) < 12 + 16 * (n : Int)
        case pos =>
          have e : BB = false := by
            rw [← hB2]; unfold plB; simp only; rw [show decide ((12 : Int) + 16 * (n : Int) ≤ (P : Int)) = false by rw [decide_eq_false_iff_not]; omega]; simp
          subst e
          subst hNB
          go_wp2_with (go_at_call 31; refine (CT.out _).mono ?_; rintro e wy ⟨rfl, hy⟩; subst wy)
          go_meet
          exact ⟨rfl, rfl⟩
        by_cases p3 : (s.size : Int) < (P : Int) + (Q : Int)
        case pos =>
          have e : BB = false := by
            rw [← hB2]; unfold plB; simp only; rw [show decide ((P : Int) + (Q : Int) ≤ (s.size : Int)) = false by rw [decide_eq_false_iff_not]; omega]; simp
          subst e
          subst hNB
          go_wp2_with (go_at_call 31; refine (CT.out _).mono ?_; rintro e wy ⟨rfl, hy⟩; subst wy)
          go_meet
          exact ⟨rfl, rfl⟩
        have p2d : decide ((P : Int) < 12 + 16 * (n : Int)) = false := by simpa using p2
        have p3d : decide ((s.size : Int) < (P : Int) + (Q : Int)) = false := by simpa using p3
        have e : BB = true := by
          rw [← hB2]; unfold plB; simp only
          rw [Bool.and_eq_true, Bool.and_eq_true, decide_eq_true_eq, decide_eq_true_eq, decide_eq_true_eq]
          exact ⟨p1, by omega, by omega⟩
        subst e
        subst hNB
        go_wp2_with (go_at_call 31; refine (CT.out _).mono ?_; rintro e wy ⟨rfl, hy⟩; subst wy)
        go_meet
        exact ⟨rfl, rfl⟩
    case rest =>
      obtain ⟨hc, hcw⟩ := hcut
      replace hcw := hcw.symm
      subst hc hcw
      clear CT
      have hrr := HRR.out
      cases hbb : BB with
      | false =>
        have e : R = false := by
          rw [← hrr]
          rw [hbb] at hBB
          exact and_f hBB
        have e8 : errV s.data.toList = 80 := by rw [HE.out, e]; rfl
        have HE8 := hide e8
        have HT8 := hide (HTN.out (by rw [e8]; decide))
        have hn0 : NB' = true := by rw [hNB, hbb]; rfl
        subst hn0
        clear e e8 hrr hBB HRR hNB hbb
        go_wp2_with fail
        go_ret2
        exact ⟨_, by rw [HE8.out]; rfl, by rw [HT8.out]; exact TbRow.nil _ _, HBX.out⟩
      | true =>
      rw [hbb] at hBB
      rw [Bool.and_eq_true, Bool.and_eq_true] at hBB
      rw [hBB.1, hBB.2.1, hBB.2.2, Bool.true_and, Bool.true_and, Bool.true_and] at hrr
      have hpl := hBB.2.2
      unfold plB at hpl
      simp only at hpl
      rw [Bool.and_eq_true, Bool.and_eq_true, decide_eq_true_eq, decide_eq_true_eq, decide_eq_true_eq] at hpl
      have HR2 := hide hrr
      have y1 : (P : Int) ≤ (P : Int) + (Q : Int) := by omega
      have y2 : (P : Int) + (Q : Int) ≤ (s.size : Int) := hpl.2.2
      have y3 : (0 : Int) ≤ (P : Int) := by omega
      have y4 : P ≤ s.size := by omega
      have y5 : P + Q ≤ s.size := by omega
      have y6 : P ≤ P + Q := by omega
      have y7 : ((P : Int) + (Q : Int)).toNat = P + Q := by omega
      have hn0 : NB' = false := by rw [hNB, hbb]; rfl
      subst hn0
      clear hrr hBB hpl HRR hNB hbb
      go_wp2_with fail
      go_loopw [11] (fun vj wi => ∃ j : Nat, vj = .int .i64 j ∧ Hid (j ≤ k ∧ (∀ i, i < j → ∀ q, rs[i]? = some q → meetB ⟨b0, b1, b2, b3, sum, (P : Int), (Q : Int)⟩ q = false) ∧ TbRow wi w.heap.size vt ((rs.take k).map (tbOf s)) ∧ Below w.heap.size w wi)) (fun vj _ => k - (intOf vj).toNat)
      case atStart => exact ⟨0, rfl, hide ⟨by omega, fun i hi => by omega, HTX.out, HBX.out⟩⟩
      case round =>
        clear HTX HBX
        obtain ⟨j, rfl, HV⟩ := hrel
        obtain ⟨hjk, hall, hT, hbw⟩ := HV.out
        have hj0 : (0 : Int) ≤ (j : Int) := by omega
        clear HV
        have HALL := hide hall
        have HT1 := hide hT
        have HBW := hide hbw
        by_cases hlj : j < k
        case neg =>
          have hlj' : ¬ (j : Int) < (k : Int) := by omega
          obtain rfl : j = k := by omega
          have hr2 := HR2.out
          rw [any_none (f := fun q => meetB ⟨b0, b1, b2, b3, sum, (P : Int), (Q : Int)⟩ q) HALL.out, Bool.not_false, Bool.true_and] at hr2
          have HR3 := hide hr2
          obtain ⟨LT, hLT⟩ : ∃ LT, ((rs.take j).map (tbOf s)).length = LT := ⟨_, rfl⟩
          obtain ⟨g, cap, w9, hrn, hT9, hB9, _⟩ := app_tab2 (TG, s.extract P (P + Q)) hT hbw.size (LT := LT) ⟨hLT, by rw [← hLT, List.length_map, List.length_take]; have := HSZ.out; omega⟩ _ rfl
          have HTB := hide (show tbOf s ⟨b0, b1, b2, b3, sum, (P : Int), (Q : Int)⟩ = (TG, s.extract P (P + Q)) by unfold tbOf tgT; simp only [Int.toNat_natCast]; rw [HTG.out])
          have HRN := hide hrn
          have HT9 := hide hT9
          have HB9 := hide (hbw.trans hB9)
          clear hr2 hLT hrn hT9 hB9 hT hbw hall HALL HT1 HBW HR2 hlj
          go_wp2_with (at_builtin; refine Lib.wpList_append_run _ rfl _ _ _ _ rfl _ _ rfl rfl _ _ HRN.out ?_)
          go_roundw
          case rel =>
            refine ⟨j + 1, by go_num, hide ⟨by omega, ?_, HR3.out, HB9.out⟩⟩
            rw [HTK.out, List.map_append, List.map_singleton, HTB.out]
            exact HT9.out
          case measure => simp [intOf]; omega
        have hlj' : (j : Int) < (k : Int) := by omega
        have hz := HSZ.out
        obtain ⟨A2, hA2⟩ : ∃ A2 : Nat, A2 = 12 + 16 * j := ⟨_, rfl⟩
        have hAj : (12 : Int) + 16 * (j : Int) = (A2 : Int) := by omega
        have hxj := HAT.out j (by omega)
        rw [← hA2] at hxj
        obtain ⟨r2, hr2⟩ : ∃ r2, rowV (s.data.toList.drop A2) = r2 := ⟨_, rfl⟩
        have hrn := row_nums s.data.toList A2 (by omega)
        have hrk := rowV_ok (s.data.toList.drop A2)
        rw [hr2] at hxj hrn hrk
        obtain ⟨c0, c1, c2, c3, sum2, pl2, ln2⟩ := r2
        obtain ⟨⟨v1, v2⟩, ⟨v3, v4⟩, ⟨v5, v6⟩⟩ := hrk
        simp only at v1 v2 v3 v4 v5 v6 hrn
        obtain ⟨p, rfl⟩ : ∃ p : Nat, pl2 = (p : Int) := ⟨pl2.toNat, by omega⟩
        obtain ⟨q, rfl⟩ : ∃ q : Nat, ln2 = (q : Int) := ⟨ln2.toNat, by omega⟩
        have p4' : (p : Int) ≤ 4294967295 := by have := n4_lt s.data.toList (A2 + 8); omega
        have p5' : (q : Int) ≤ 4294967295 := by have := n4_lt s.data.toList (A2 + 12); omega
        have CP := hide (show ∀ z w, z = ((A2 + 8 : Nat) : Int) → Calls Tryd.prog 30 #[.string s, .int .i64 z] w fun e w' => e = .returned (.int .i64 (p : Int)) ∧ Below w.heap.size w w' from fun z w hz2 => by
          have h := CU4.out (A2 + 8) z w hz2 (by omega)
          rw [← hrn.2.1] at h
          exact h)
        have CQ := hide (show ∀ z w, z = ((A2 + 12 : Nat) : Int) → Calls Tryd.prog 30 #[.string s, .int .i64 z] w fun e w' => e = .returned (.int .i64 (q : Int)) ∧ Below w.heap.size w w' from fun z w hz2 => by
          have h := CU4.out (A2 + 12) z w hz2 (by omega)
          rw [← hrn.2.2] at h
          exact h)
        have hA21 : (A2 : Int) ≤ 1000 := by omega
        have hA20 : (0 : Int) ≤ (A2 : Int) := by omega
        have hmr := meet_ref P Q p q b0 b1 b2 b3 c0 c1 c2 c3 sum sum2
        have HXJ := hide hxj
        clear hall hT hbw hxj hr2 hrn hz hA2
        by_cases hm : 0 < q ∧ 0 < Q ∧ p < P + Q ∧ P < p + q
        case pos =>
          have e : R = false := by
            rw [← HR2.out, any_hit (f := fun q => meetB ⟨b0, b1, b2, b3, sum, (P : Int), (Q : Int)⟩ q) hlj HXJ.out (hmr.2 hm)]
            rfl
          have e8 : errV s.data.toList = 80 := by rw [HE.out, e]; rfl
          have HE8 := hide e8
          have HT8 := hide (HTN.out (by rw [e8]; decide))
          obtain ⟨m1, m2, m3, m4⟩ := hm
          have m1' : (0 : Int) < (q : Int) := by omega
          have m2' : (0 : Int) < (Q : Int) := by omega
          have m3' : (p : Int) < (P : Int) + (Q : Int) := by omega
          have m4' : (P : Int) < (p : Int) + (q : Int) := by omega
          clear e e8 hmr HALL HT1
          go_wp2_with fail
          refine (CP.out _ _ (by omega)).mono ?_
          rintro e x1 ⟨rfl, hb1⟩
          have HB1 := hide (HBW.out.trans (hb1.mono HBW.out.size))
          clear hb1
          go_wp2_with fail
          refine (CQ.out _ _ (by omega)).mono ?_
          rintro e x2 ⟨rfl, hb2⟩
          have HB2 := hide (HB1.out.trans (hb2.mono HB1.out.size))
          clear hb2
          go_wp2_with fail
          go_ret2
          exact ⟨_, by rw [HE8.out]; rfl, by rw [HT8.out]; exact TbRow.nil _ _, HB2.out⟩
        have hmf : meetB ⟨b0, b1, b2, b3, sum, (P : Int), (Q : Int)⟩ ⟨c0, c1, c2, c3, sum2, (p : Int), (q : Int)⟩ = false := by
          cases e : meetB ⟨b0, b1, b2, b3, sum, (P : Int), (Q : Int)⟩ ⟨c0, c1, c2, c3, sum2, (p : Int), (q : Int)⟩ with
          | false => rfl
          | true => exact absurd (hmr.1 e) hm
        have HNX : Hid (∀ i, i < j + 1 → ∀ q, rs[i]? = some q → meetB ⟨b0, b1, b2, b3, sum, (P : Int), (Q : Int)⟩ q = false) := hide (fun i hi t ht => by
          rcases Nat.lt_or_ge i j with h' | h'
          · exact HALL.out i h' t ht
          · obtain rfl : i = j := by omega
            rw [HXJ.out] at ht; injection ht with ht; rw [← ht]; exact hmf)
        have hcs : (decide (0 < q) = false ∧ decide ((0 : Int) < (q : Int)) = false) ∨ ((0 : Int) < (q : Int) ∧ decide (0 < Q) = false ∧ decide ((0 : Int) < (Q : Int)) = false) ∨ ((0 : Int) < (q : Int) ∧ (0 : Int) < (Q : Int) ∧ decide ((p : Int) < (P : Int) + (Q : Int)) = false) ∨ ((0 : Int) < (q : Int) ∧ (0 : Int) < (Q : Int) ∧ (p : Int) < (P : Int) + (Q : Int) ∧ decide ((P : Int) < (p : Int) + (q : Int)) = false) := by
          simp only [decide_eq_false_iff_not]
          omega
        clear hmf hmr hm HALL
        rcases hcs with ⟨m1, m1'⟩ | ⟨m1, m2, m2'⟩ | ⟨m1, m2, m3⟩ | ⟨m1, m2, m3, m4⟩
        all_goals
          go_wp2_with fail
          refine (CP.out _ _ (by omega)).mono ?_
          rintro e x1 ⟨rfl, hb1⟩
          have HB1 := hide (HBW.out.trans (hb1.mono HBW.out.size))
          have HTT1 := hide (HT1.out.later hb1)
          clear hb1
          go_wp2_with fail
          refine (CQ.out _ _ (by omega)).mono ?_
          rintro e x2 ⟨rfl, hb2⟩
          have HB2 := hide (HB1.out.trans (hb2.mono HB1.out.size))
          have HTT2 := hide (HTT1.out.later hb2)
          clear hb2
          go_wp2_with fail
          go_roundw
          case rel => exact ⟨j + 1, by go_num, hide ⟨by omega, HNX.out, HTT2.out, HB2.out⟩⟩
          case measure => simp [intOf]; omega
end Go.Proofs.YtgmmhlpdkoiheaaDoor
