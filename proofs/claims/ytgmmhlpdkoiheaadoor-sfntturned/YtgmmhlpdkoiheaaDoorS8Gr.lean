/-
  What the landed Read answers.
-/
import Derived.Test.YtgmmhlpdkoiheaaDoorS8Gf
import Derived.Test.YtgmmhlpdkoiheaaDoorS8Gd
import Derived.Test.YtgmmhlpdkoiheaaDoorS8Rd
namespace Go.Proofs.YtgmmhlpdkoiheaaDoor
open Go.RowKit Go.Deep
set_option linter.unusedVariables false
set_option linter.unusedSimpArgs false

theorem TbRow.later {w w' : World} {B : Nat} {v : Value} {l : List (ByteArray × ByteArray)} (h : TbRow w B v l) (hb : Below w.heap.size w w') : TbRow w' B v l := ownsRow_kept h (fun k _ hk => hb.block k hk)
theorem app_tab2 {W : World} {B : Nat} {v : Value} {l : List (ByteArray × ByteArray)} {LT : Nat} (x : ByteArray × ByteArray) (h : TbRow W B v l) (hB : B ≤ W.heap.size) (hl : l.length = LT ∧ LT ≤ 1000) (H : Nat) (hH : W.heap.size = H) :
    ∃ g cap w2, (Builtin.append_ #[27, 27] 27 #[v, .slice (some ⟨H, 0, none⟩) 1 1]).run Tryd.prog (W.alloc (.cells #[.string x.1, .string x.2] 43)) = .ok (.slice (some ⟨g, 0, none⟩) (LT + 1) cap) w2 ∧ TbRow w2 B (.slice (some ⟨g, 0, none⟩) (LT + 1) cap) (l ++ [x]) ∧ Below B W w2 ∧ (∀ k, k < W.heap.size → some k ≠ v.ownBlock → w2.heap[k]? = W.heap[k]?) := by
  obtain ⟨hLT, hl⟩ := hl
  subst hLT
  obtain ⟨i0, hi, hz0, hz1, hz2⟩ := info_parts5 info_tab
  subst hH
  obtain ⟨g, cap, w2, hr, ho, hg, _, _⟩ := run_append_lies (P := Tryd.prog) (W.alloc (.cells #[.string x.1, .string x.2] 43)) 27 27 B 43 i0 _ 2 32 Tryd.underlying27 hi hz0 hz1 hz2 rfl (by decide) v l.length (tcs l) (World.ownsRow.alloc h _) ⟨W.heap.size, 0, none⟩ 1 1 [.string x.1, .string x.2] (by simp)
    (fun j u hu => by rw [Go.WideShapes.add_plain, Nat.zero_add, World.cell?_alloc_at _ _ _ _ rfl]; simpa using hu) (fun u hu => by simp at hu; rcases hu with rfl | rfl <;> rfl) (by decide) (by unfold maxLen; omega) (by omega) (by simp; omega) (W.heap.size + 1) (by simp)
  refine ⟨g, cap, w2, hr, ?_, ((Below.refl B W).alloc hB _).grown hg (by simp; omega) fun k hk' => (World.ownsRow.lt h k hk').1, fun k hk hne => ?_⟩
  · unfold TbRow
    have e : tcs (l ++ [x]) = tcs l ++ [.string x.1, .string x.2] := by unfold tcs; simp
    rw [e, List.length_append]
    exact ho
  · rw [hg.block k (by simp; omega) (fun e => hne e)]
    show (W.heap.push _)[k]? = _
    rw [Array.getElem?_push, if_neg (by omega)]
theorem TbRow.own_lt {w : World} {B k : Nat} {v : Value} {l : List (ByteArray × ByteArray)} (h : TbRow w B v l) (e : some k = v.ownBlock) : k < w.heap.size := (World.ownsRow.lt h k e.symm).2
theorem TbRow.shape {w : World} {B : Nat} {v : Value} {l : List (ByteArray × ByteArray)} (h : TbRow w B v l) : ∃ a cap, v = .slice a l.length cap := by
  obtain ⟨_, ⟨h0, h1⟩ | ⟨g, cap, cur, hv, _⟩⟩ := h
  · exact ⟨none, 0, by rw [h0, h1]⟩
  · exact ⟨_, cap, hv⟩
theorem okG_pl (N n : Nat) : ∀ (rs ds : List Rw), okG N n ds rs = true → ∀ r ∈ rs, plB N n r = true
  | [], ds, _, r, hr => by simp at hr
  | q :: rs, ds, h, r, hr => by
    rw [okG, Bool.and_eq_true, Bool.and_eq_true] at h
    rcases List.mem_cons.1 hr with rfl | hr
    · exact h.1
    · exact okG_pl N n rs _ h.2.2 r hr
theorem fau_pl {l : List UInt8} {N n : Nat} {rs : List Rw} (h : fauG l N n [] rs 0 = 0) : ∀ r ∈ rs, r.pl + r.ln ≤ N := by
  rw [fauG_eq] at h
  cases e : okG N n [] rs with
  | false => rw [e] at h; simp at h
  | true =>
    intro r hr
    have h2 := okG_pl N n rs [] e r hr
    unfold plB at h2
    rw [Bool.and_eq_true, Bool.and_eq_true, decide_eq_true_eq, decide_eq_true_eq, decide_eq_true_eq] at h2
    exact h2.2.2
def RdR (w : World) (s : ByteArray) (e : Ending) (w' : World) : Prop := ∃ v, e = .returned (.tuple #[v, .int .i64 (errV s.data.toList)]) ∧ TbRow w' w.heap.size v (tabV s) ∧ Below w.heap.size w w'
theorem tabV_no {s : ByteArray} (h : errV s.data.toList ≠ 0) : tabV s = [] := by unfold tabV; rw [if_neg h]
set_option maxRecDepth 8000 in
set_option maxHeartbeats 4000000 in
theorem read_gen (s : ByteArray) (w : World) (hg : Glo8 w) (hs : s.size ≤ 9223372036854775807) : Calls Tryd.prog 13 #[.string s] w (RdR w s) := by
  have hlen : s.data.toList.length = s.size := (Lib.size_eq s).symm
  have hs9 : (s.size : Int) ≤ 9223372036854775807 := by omega
  by_cases hb0 : 1048576 < s.size
  · have hb' : (1048576 : Int) < (s.size : Int) := by omega
    have e : errV s.data.toList = 2 := by unfold errV; rw [if_pos (by omega)]
    have HE := hide e
    have HT := hide (tabV_no (s := s) (by rw [e]; decide))
    clear hlen hs hb0 e
    go_enter Tryd.func13, Tryd.ntmps13
    go_wp2_with fail
    go_ret2
    exact ⟨_, by rw [HE.out]; rfl, by rw [HT.out]; exact TbRow.nil _ _, Below.refl _ _⟩
  have hb' : ¬ (1048576 : Int) < (s.size : Int) := by omega
  have hs1 : (s.size : Int) ≤ 1048576 := by omega
  have CDR := hide (directory_any s w (by omega))
  have HS := hide (show s.size ≤ 1048576 by omega)
  have HLEN0 := hide hlen
  obtain ⟨n, hn⟩ : ∃ n, nTab s.data.toList = n := ⟨_, rfl⟩
  cases hH : hdB s.data.toList with
  | false =>
    have e : errV s.data.toList = 80 := by unfold errV; rw [if_neg (by omega), hH]; rfl
    have HE := hide e
    have HT := hide (tabV_no (s := s) (by rw [e]; decide))
    have HH := hide hH
    clear hlen hs hb0 e hH
    go_enter Tryd.func13, Tryd.ntmps13
    go_wp2_with fail
    refine CDR.out.mono ?_
    intro e w1 h1
    unfold DirR at h1
    rw [HH.out, if_neg (by simp)] at h1
    obtain ⟨rfl, hb1⟩ := h1
    have HB1 := hide hb1
    clear hb1
    go_wp2_with fail
    go_ret2
    exact ⟨_, by rw [HE.out]; rfl, by rw [HT.out]; exact TbRow.nil _ _, HB1.out⟩
  | true =>
  have h32 : n ≤ 32 := by
    unfold hdB at hH
    rw [Bool.and_eq_true, Bool.and_eq_true, Bool.and_eq_true, decide_eq_true_eq, decide_eq_true_eq, decide_eq_true_eq, hn] at hH
    exact hH.2.2.1
  have h32' : (n : Int) ≤ 32 := by omega
  cases hR : riseB [0, 0, 0, 0] (rowsV s.data.toList n) with
  | false =>
    have e : errV s.data.toList = 80 := by unfold errV; rw [if_neg (by omega), hH, hn, hR]; rfl
    have HE := hide e
    have HT := hide (tabV_no (s := s) (by rw [e]; decide))
    have HH := hide hH
    have HN := hide hn
    have HR := hide hR
    clear hlen hs hb0 e hH hn hR
    go_enter Tryd.func13, Tryd.ntmps13
    go_wp2_with fail
    refine CDR.out.mono ?_
    intro e w1 h1
    unfold DirR at h1
    rw [HH.out, if_pos rfl, HN.out, HR.out] at h1
    obtain ⟨b, rfl, hl1, hb1⟩ := h1
    have HB1 := hide hb1
    clear hb1 hl1
    go_wp2_with fail
    go_ret2
    exact ⟨_, by rw [HE.out]; rfl, by rw [HT.out]; exact TbRow.nil _ _, HB1.out⟩
  | true =>
  obtain ⟨F, hF⟩ : ∃ F, fauG s.data.toList s.size n [] (rowsV s.data.toList n) 0 = F := ⟨_, rfl⟩
  have eE : errV s.data.toList = F := by unfold errV; rw [if_neg (by omega), hH, hn, hR, hlen, hF]; rfl
  have CF := hide (fun b w1 (hL : RLst w1 b (rowsV s.data.toList n)) (hG : Glo8 w1) => fault_any s (rowsV s.data.toList n) b n n w1 (rowsV_len _ _) h32 (Nat.le_refl _) (by omega) (by omega) hL (fun r hr => by
    unfold rowsV at hr
    obtain ⟨i, _, rfl⟩ := List.mem_map.1 hr
    exact rwAt_ok _ _) hG)
  rw [hF] at CF
  have HE := hide eE
  have HH := hide hH
  have HN := hide hn
  have HRs := hide hR
  have HG := hide hg
  by_cases hF0 : F = 0
  case neg =>
    have hF1 : (F != 0) = true := by simpa using hF0
    have HT := hide (tabV_no (s := s) (by rw [eE]; exact hF0))
    clear hlen hs hb0 eE hH hn hR hF hg hF0
    go_enter Tryd.func13, Tryd.ntmps13
    go_wp2_with fail
    refine CDR.out.mono ?_
    intro e w1 h1
    unfold DirR at h1
    rw [HH.out, if_pos rfl, HN.out, HRs.out] at h1
    obtain ⟨b, rfl, hl1, hb1⟩ := h1
    have HB1 := hide hb1
    have CF1 := hide (CF.out b w1 hl1 (HG.out.below hb1))
    clear hb1 hl1
    go_wp2_with fail
    refine CF1.out.mono ?_
    rintro e w2 ⟨rfl, hb2⟩
    have HB2 := hide (below_t5 HB1.out hb2)
    clear hb2
    go_wp2_with fail
    go_ret2
    exact ⟨_, by rw [HE.out]; rfl, by rw [HT.out]; exact TbRow.nil _ _, HB2.out⟩
  subst hF0
  have HPL := hide (fau_pl hF)
  have HTV : Hid (tabV s = (rowsV s.data.toList n).map (tbOf s)) := hide (by unfold tabV; rw [if_pos eE, hn])
  have HNL := hide (rowsV_len s.data.toList n)
  clear hlen hs hb0 eE hH hn hR hF hg
  go_enter Tryd.func13, Tryd.ntmps13
  go_wp2_with fail
  refine CDR.out.mono ?_
  intro e w1 h1
  unfold DirR at h1
  rw [HH.out, if_pos rfl, HN.out, HRs.out] at h1
  obtain ⟨b, rfl, hl1, hb1⟩ := h1
  have HB1 := hide hb1
  have HL1 := hide hl1
  have CF1 := hide (CF.out b w1 hl1 (HG.out.below hb1))
  clear hb1 hl1
  go_wp2_with fail
  refine CF1.out.mono ?_
  rintro e w2 ⟨rfl, hb2⟩
  have HB2 := hide (below_t5 HB1.out hb2)
  have HL2 := hide (HL1.out.below hb2)
  have hblt : b < w2.heap.size := HL2.out.1
  clear hb2
  go_wp2_with fail
  go_loopw [7, 28] (fun vt vi wr => ∃ k : Nat, vi = .int .i64 k ∧ Hid (k ≤ n ∧ TbRow wr w2.heap.size vt (((rowsV s.data.toList n).take k).map (tbOf s)) ∧ Below w2.heap.size w2 wr)) (fun _ vi _ => n - (intOf vi).toNat)
  case atStart => exact ⟨0, rfl, hide ⟨by omega, TbRow.nil _ _, Below.refl _ _⟩⟩
  case round =>
    obtain ⟨W1, hW1⟩ : ∃ W1, W1 = wr := ⟨_, rfl⟩
    subst hW1
    obtain ⟨vt, hvt0⟩ : ∃ vt, vt = u7 := ⟨_, rfl⟩
    subst hvt0
    obtain ⟨k, rfl, HV⟩ := hrel
    obtain ⟨hk, hT, hbw⟩ := HV.out
    have hk0 : (0 : Int) ≤ (k : Int) := by omega
    clear HV
    by_cases hlt : k < n
    case neg =>
      have hlt' : ¬ (k : Int) < (n : Int) := by omega
      rw [List.take_of_length_le (by rw [HNL.out]; omega), ← HTV.out] at hT
      have HT := hide (hT.mono HB2.out.size)
      have HBW := hide (HB2.out.trans (hbw.mono HB2.out.size))
      clear hT hbw hlt
      go_wp2_with fail
      go_ret2
      exact ⟨_, by rw [HE.out]; rfl, HT.out, HBW.out⟩
    have hlt' : (k : Int) < (n : Int) := by omega
    obtain ⟨r, hx⟩ : ∃ r, (rowsV s.data.toList n)[k]? = some r := ⟨_, List.getElem?_eq_getElem (by rw [HNL.out]; exact hlt)⟩
    obtain ⟨g0, g1, g2, g3, g4, g5, g6⟩ := (HL2.out.below hbw).2 k r hx
    have hrk : RwOk r := by
      have := List.mem_of_getElem? hx
      unfold rowsV at this
      obtain ⟨i, _, rfl⟩ := List.mem_map.1 this
      exact rwAt_ok _ _
    have hpl := HPL.out r (List.mem_of_getElem? hx)
    have hbr : b < W1.heap.size := Nat.lt_of_lt_of_le hblt hbw.size
    have hne1 : b ≠ W1.heap.size := by omega
    have HTK := hide (take_at (rowsV s.data.toList n) k hx)
    obtain ⟨TG, hTG⟩ : ∃ TG : ByteArray, (⟨(tgT r).toArray⟩ : ByteArray) = TG := ⟨_, rfl⟩
    have HTB := hide (show tbOf s r = (TG, s.extract r.pl.toNat (r.pl.toNat + r.ln.toNat)) by unfold tbOf; rw [hTG])
    have HTG := hide hTG
    obtain ⟨b0, b1, b2, b3, sum, pl, ln⟩ := r
    simp only at g0 g1 g2 g3 g4 g5 g6 hpl
    have HRK := hide hrk
    obtain ⟨⟨o1, o2⟩, ⟨o3, o4⟩, ⟨o5, o6⟩⟩ := hrk
    simp only at o1 o2 o3 o4 o5 o6
    obtain ⟨P, rfl⟩ : ∃ P : Nat, pl = (P : Int) := ⟨pl.toNat, by omega⟩
    obtain ⟨Q, rfl⟩ : ∃ Q : Nat, ln = (Q : Int) := ⟨ln.toNat, by omega⟩
    have CE := hide (fun w => end_any ⟨b0, b1, b2, b3, sum, (P : Int), (Q : Int)⟩ w HRK.out)
    have CC := hide (fun (t : ByteArray) (w : World) (ht : t = s.extract P (P + Q)) => clone_any t w (by rw [ht, ByteArray.size_extract]; have := HS.out; omega))
    have k1 := Blk.new W1 (rC b0 b1 b2 b3 sum (P : Int) (Q : Int)) 56
    have HB1V := hide (show Below W1.heap.size W1 (W1.alloc (.cells (rC b0 b1 b2 b3 sum (P : Int) (Q : Int)) 56)) from (Below.refl _ _).alloc (Nat.le_refl _) _)
    have HT1 := hide hT
    have HBW := hide hbw
    obtain ⟨LT, hLT⟩ : ∃ LT, (((rowsV s.data.toList n).take k).map (tbOf s)).length = LT := ⟨_, rfl⟩
    have HLEN := hide (show (((rowsV s.data.toList n).take k).map (tbOf s)).length = LT ∧ LT ≤ 1000 from ⟨hLT, by rw [← hLT, List.length_map, List.length_take]; omega⟩)
    have hPQ : ((P : Int) + (Q : Int)).toNat = P + Q := by omega
    have y1 : (P : Int) ≤ (P : Int) + (Q : Int) := by omega
    have y3 : (0 : Int) ≤ (P : Int) := by omega
    have y4 : P ≤ s.size := by omega
    have y5 : P + Q ≤ s.size := by omega
    have y6 : P ≤ P + Q := by omega
    clear hT hbw hx hTG hLT
    go_wp2_with fail
    rename_i kk0
    have HA := hide kk0
    clear kk0
    have HW2 : Hid (w2.heap.size ≤ (W1.alloc (.cells (rC b0 b1 b2 b3 sum (P : Int) (Q : Int)) 56)).heap.size) := hide (Nat.le_trans HBW.out.size HB1V.out.size)
    generalize W1.alloc (.cells (rC b0 b1 b2 b3 sum (P : Int) (Q : Int)) 56) = V at k1 HB1V HW2 ⊢
    have KS := hide (show ∀ x, Below V.heap.size V x → (fun x => (convert 45 9 (.slice (some ⟨W1.heap.size, 0, none⟩) 4 4)).run Tryd.prog x = .ok (.string TG) x ∧ x.cell? ⟨W1.heap.size, 0, none⟩ = some (.int .u8 (b0.toNat : Int)) ∧ x.cell? ⟨W1.heap.size, 1, none⟩ = some (.int .u8 (b1.toNat : Int)) ∧ x.cell? ⟨W1.heap.size, 2, none⟩ = some (.int .u8 (b2.toNat : Int)) ∧ x.cell? ⟨W1.heap.size, 3, none⟩ = some (.int .u8 (b3.toNat : Int)) ∧ x.cell? ⟨W1.heap.size, 4, none⟩ = some (.int .i64 sum) ∧ x.cell? ⟨W1.heap.size, 5, none⟩ = some (.int .i64 (P : Int)) ∧ x.cell? ⟨W1.heap.size, 6, none⟩ = some (.int .i64 (Q : Int))) x from fun x hx => by
      have k := k1.below hx
      refine ⟨?_, k.cell 0, k.cell 1, k.cell 2, k.cell 3, k.cell 4, k.cell 5, k.cell 6⟩
      rw [← HTG.out]
      refine run_convert_bytes_back (P := Tryd.prog) x 45 9 5 ⟨W1.heap.size, 0, none⟩ 4 [b0, b1, b2, b3] Tryd.underlying45 Tryd.underlying5 Tryd.underlying9 ?_
      intro j hj
      rw [Go.WideShapes.add_plain, Nat.zero_add, k.cell j]
      match j, hj with
      | 0, _ => rfl
      | 1, _ => rfl
      | 2, _ => rfl
      | 3, _ => rfl)
    have KS9 := hide (show ∀ x z, Below V.heap.size V x → (∀ k, k < x.heap.size → some k ≠ vt.ownBlock → z.heap[k]? = x.heap[k]?) → (fun x => (convert 45 9 (.slice (some ⟨W1.heap.size, 0, none⟩) 4 4)).run Tryd.prog x = .ok (.string TG) x ∧ x.cell? ⟨W1.heap.size, 0, none⟩ = some (.int .u8 (b0.toNat : Int)) ∧ x.cell? ⟨W1.heap.size, 1, none⟩ = some (.int .u8 (b1.toNat : Int)) ∧ x.cell? ⟨W1.heap.size, 2, none⟩ = some (.int .u8 (b2.toNat : Int)) ∧ x.cell? ⟨W1.heap.size, 3, none⟩ = some (.int .u8 (b3.toNat : Int)) ∧ x.cell? ⟨W1.heap.size, 4, none⟩ = some (.int .i64 sum) ∧ x.cell? ⟨W1.heap.size, 5, none⟩ = some (.int .i64 (P : Int)) ∧ x.cell? ⟨W1.heap.size, 6, none⟩ = some (.int .i64 (Q : Int))) z from fun x z hx hz => by
      have hk := k1.below hx
      have k : Blk z W1.heap.size (rC b0 b1 b2 b3 sum (P : Int) (Q : Int)) 56 := by
        have hlt1 := k1.lt
        unfold Blk at hk ⊢
        rw [hz W1.heap.size (Nat.lt_of_lt_of_le hlt1 hx.size) (fun e => by have := HT1.out.own_lt e; omega)]
        exact hk
      refine ⟨?_, k.cell 0, k.cell 1, k.cell 2, k.cell 3, k.cell 4, k.cell 5, k.cell 6⟩
      rw [← HTG.out]
      refine run_convert_bytes_back (P := Tryd.prog) z 45 9 5 ⟨W1.heap.size, 0, none⟩ 4 [b0, b1, b2, b3] Tryd.underlying45 Tryd.underlying5 Tryd.underlying9 ?_
      intro j hj
      rw [Go.WideShapes.add_plain, Nat.zero_add, k.cell j]
      match j, hj with
      | 0, _ => rfl
      | 1, _ => rfl
      | 2, _ => rfl
      | 3, _ => rfl)
    have HB := hide (Below.refl V.heap.size V)
    clear k1 g0 g1 g2 g3 g4 g5 g6
    refine wp_region_held_drew (S := (fun x => (convert 45 9 (.slice (some ⟨W1.heap.size, 0, none⟩) 4 4)).run Tryd.prog x = .ok (.string TG) x ∧ x.cell? ⟨W1.heap.size, 0, none⟩ = some (.int .u8 (b0.toNat : Int)) ∧ x.cell? ⟨W1.heap.size, 1, none⟩ = some (.int .u8 (b1.toNat : Int)) ∧ x.cell? ⟨W1.heap.size, 2, none⟩ = some (.int .u8 (b2.toNat : Int)) ∧ x.cell? ⟨W1.heap.size, 3, none⟩ = some (.int .u8 (b3.toNat : Int)) ∧ x.cell? ⟨W1.heap.size, 4, none⟩ = some (.int .i64 sum) ∧ x.cell? ⟨W1.heap.size, 5, none⟩ = some (.int .i64 (P : Int)) ∧ x.cell? ⟨W1.heap.size, 6, none⟩ = some (.int .i64 (Q : Int)))) (by kernel_rfl) (KS.out _ ((Below.refl _ _).drew)) (fun hHeld => ?_)
    refine takeW (i := 0) (d := 32) (v := vt) rfl rfl (by kernel_rfl) (by kernel_rfl) (by kernel_rfl) (fun _ _ _ h => h) (by rfl) ?_ (by assumption) ?_
    · intro x hSx
      obtain ⟨q0, q1, q2, q3, q4, q5, q6, q7⟩ := hSx
      go_simp
    simp only [Act.put, List.setIfInBounds_toArray, List.set_cons_zero, List.set_cons_succ]
    refine takeW (i := 1) (d := 33) (v := .pointer (some ⟨W1.heap.size, 0, none⟩)) rfl rfl (by kernel_rfl) (by kernel_rfl) (by kernel_rfl) (fun _ _ _ h => h) (by rfl) ?_ (by assumption) ?_
    · intro x hSx
      obtain ⟨q0, q1, q2, q3, q4, q5, q6, q7⟩ := hSx
      go_simp
    simp only [Act.put, List.setIfInBounds_toArray, List.set_cons_zero, List.set_cons_succ]
    refine takeW (i := 2) (d := 34) (v := .slice (some ⟨W1.heap.size, 0, none⟩) 4 4) rfl rfl (by kernel_rfl) (by kernel_rfl) (by kernel_rfl) (fun _ _ _ h => h) (by rfl) ?_ (by assumption) ?_
    · intro x hSx
      obtain ⟨q0, q1, q2, q3, q4, q5, q6, q7⟩ := hSx
      go_simp
    simp only [Act.put, List.setIfInBounds_toArray, List.set_cons_zero, List.set_cons_succ]
    refine takeW (i := 3) (d := 35) (v := .string TG) rfl rfl (by kernel_rfl) (by kernel_rfl) (by kernel_rfl) (fun _ _ _ h => h) (by rfl) ?_ (by assumption) ?_
    · intro x hSx
      obtain ⟨q0, q1, q2, q3, q4, q5, q6, q7⟩ := hSx
      go_simp
    simp only [Act.put, List.setIfInBounds_toArray, List.set_cons_zero, List.set_cons_succ]
    refine takeW (i := 4) (d := 36) (v := .string s) rfl rfl (by kernel_rfl) (by kernel_rfl) (by kernel_rfl) (fun _ _ _ h => h) (by rfl) ?_ (by assumption) ?_
    · intro x hSx
      obtain ⟨q0, q1, q2, q3, q4, q5, q6, q7⟩ := hSx
      go_simp
    simp only [Act.put, List.setIfInBounds_toArray, List.set_cons_zero, List.set_cons_succ]
    refine takeW (i := 5) (d := 37) (v := .pointer (some ⟨W1.heap.size, 5, none⟩)) rfl rfl (by kernel_rfl) (by kernel_rfl) (by kernel_rfl) (fun _ _ _ h => h) (by rfl) ?_ (by assumption) ?_
    · intro x hSx
      obtain ⟨q0, q1, q2, q3, q4, q5, q6, q7⟩ := hSx
      go_simp
    simp only [Act.put, List.setIfInBounds_toArray, List.set_cons_zero, List.set_cons_succ]
    refine takeW (i := 6) (d := 38) (v := .int .i64 (P : Int)) rfl rfl (by kernel_rfl) (by kernel_rfl) (by kernel_rfl) (fun _ _ _ h => h) (by rfl) ?_ (by assumption) ?_
    · intro x hSx
      obtain ⟨q0, q1, q2, q3, q4, q5, q6, q7⟩ := hSx
      go_simp
    simp only [Act.put, List.setIfInBounds_toArray, List.set_cons_zero, List.set_cons_succ]
    refine takeW (i := 7) (d := 39) (v := .agg (rC b0 b1 b2 b3 sum (P : Int) (Q : Int))) rfl rfl (by kernel_rfl) (by kernel_rfl) (by kernel_rfl) (fun _ _ _ h => h) (by rfl) ?_ (by assumption) ?_
    · intro x hSx
      obtain ⟨q0, q1, q2, q3, q4, q5, q6, q7⟩ := hSx
      go_simp
    simp only [Act.put, List.setIfInBounds_toArray, List.set_cons_zero, List.set_cons_succ]
    refine wpAnyH_ready (rs := [8]) (by kernel_rfl) (by simp) ?_
    refine AllReadyH.cons rfl (fun K hK => ?_) AllReadyH.nil
    rw [if_pos (by rfl)]
    go_simp
    go_at_call 27
    refine (CE.out _).mono ?_
    rintro e y ⟨rfl, hbx⟩
    replace HB := hide (below_d HB.out hbx rfl rfl rfl rfl)
    clear hbx
    refine hK.out _ _ (KS.out _ (below_d HB.out (Below.refl _ _) rfl rfl rfl rfl)) (fun hHeld => ?_)
    clear hK K
    refine takeW (i := 9) (d := 41) (v := .string (s.extract P (P + Q))) rfl rfl (by kernel_rfl) (by kernel_rfl) (by kernel_rfl) (fun _ _ _ h => h) (by rfl) ?_ (by assumption) ?_
    · intro x hSx
      obtain ⟨q0, q1, q2, q3, q4, q5, q6, q7⟩ := hSx
      go_simp
    simp only [Act.put, List.setIfInBounds_toArray, List.set_cons_zero, List.set_cons_succ]
    refine wpAnyH_ready (rs := [10]) (by kernel_rfl) (by simp) ?_
    refine AllReadyH.cons rfl (fun K hK => ?_) AllReadyH.nil
    rw [if_pos (by rfl)]
    go_simp
    go_at_call 26
    refine (CC.out _ _ rfl).mono ?_
    rintro e y2 ⟨rfl, hbx⟩
    replace HB := hide (below_d HB.out hbx rfl rfl rfl rfl)
    clear hbx
    refine hK.out _ _ (KS.out _ (below_d HB.out (Below.refl _ _) rfl rfl rfl rfl)) (fun hHeld => ?_)
    clear hK K
    refine takeW (i := 11) (d := 43) (v := .agg #[.string TG, .string (s.extract P (P + Q))]) rfl rfl (by kernel_rfl) (by kernel_rfl) (by kernel_rfl) (fun _ _ _ h => h) (by rfl) ?_ (by assumption) ?_
    · intro x hSx
      obtain ⟨q0, q1, q2, q3, q4, q5, q6, q7⟩ := hSx
      go_simp
    simp only [Act.put, List.setIfInBounds_toArray, List.set_cons_zero, List.set_cons_succ]
    refine wpAnyH_ready (rs := [12]) (by kernel_rfl) (by simp) ?_
    refine AllReadyH.cons rfl (fun K hK => ?_) AllReadyH.nil
    rw [if_pos (by rfl)]
    go_simp
    have hal := (Below.refl y2.heap.size y2).alloc (Nat.le_refl _) (.cells #[.string TG, .string (s.extract P (P + Q))] 43)
    have hTy := HT1.out.later (HB1V.out.trans (HB.out.mono HB1V.out.size))
    obtain ⟨g, cap, w9, hr, hT, hBT, hOT⟩ := app_tab2 (TG, s.extract P (P + Q)) hTy (Nat.le_trans HW2.out HB.out.size) HLEN.out y2.heap.size rfl
    have HR := hide hr
    have HT := hide hT
    have HBT := hide hBT
    have HS9 := hide (KS9.out y2 w9 HB.out hOT)
    refine hK.out _ _ (KS.out _ (below_t5 HB.out hal)) (fun hHeld => ?_)
    clear hal hr hT hBT hTy hOT
    clear hK K
    refine wpAnyH_ready (rs := [13]) (by kernel_rfl) (by simp) ?_
    refine AllReadyH.cons rfl (fun K hK => ?_) AllReadyH.nil
    refine step_append_run _ (by rfl) _ _ _ _ (by rfl) _ _ (by rfl) (by rfl) _ _ HR.out ?_
    refine hK.out _ _ HS9.out (fun hHeld => ?_)
    clear hK K
    refine takeW (i := 14) (d := 7) (v := .slice (some ⟨g, 0, none⟩) (LT + 1) cap) rfl rfl (by kernel_rfl) (by kernel_rfl) (by kernel_rfl) (fun _ _ _ h => h) (by rfl) ?_ (by assumption) ?_
    · intro x hSx
      obtain ⟨q0, q1, q2, q3, q4, q5, q6, q7⟩ := hSx
      go_simp
    simp only [Act.put, List.setIfInBounds_toArray, List.set_cons_zero, List.set_cons_succ]
    refine wpAnyH_done (by kernel_rfl) ?_ _
    all_goals
      refine HA.out _ _ ?_
      go_wp2_with fail
      go_roundw
      case rel =>
        refine ⟨k + 1, by go_num, hide ⟨by omega, ?_, ?_⟩⟩
        · rw [HTK.out, List.map_append, List.map_singleton, HTB.out]
          have := HT.out
          exact this
        · exact (HBW.out.trans (((HB1V.out.mono HBW.out.size).trans (HB.out.mono HW2.out)).trans HBT.out))
      case measure => simp [intOf]; omega
end Go.Proofs.YtgmmhlpdkoiheaaDoor
