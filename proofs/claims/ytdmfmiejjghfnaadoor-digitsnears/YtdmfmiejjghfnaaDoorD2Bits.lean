/-
  What the reference's bits (chapter 2) answers.
-/
import Derived.Test.YtdmfmiejjghfnaaDoorD2Dbl
import Derived.Laws.OwnMore
namespace Go.Proofs.YtdmfmiejjghfnaaDoor
open Go.RowKit

theorem info_int : (Tryd.prog.info? 3).map (fun i => (i.zero, i.size, i.bytes)) = some (some (.int .i64 0), 1, 8) := by kernel_rfl
def icell (d : Nat) : Value := Value.int .i64 (d : Int)
/- what the call owns: a slice of digits -/
def OwnI (w : World) (B : Nat) (v : Value) (n : Nat) (ys : List Nat) : Prop := w.ownsRow B 3 1 v n (ys.map icell)
theorem OwnI.at {w : World} {B g n cap : Nat} {ys : List Nat} (h : OwnI w B (.slice (some ⟨g, 0, none⟩) n cap) n ys) (i d : Nat) (hi : ys[i]? = some d) : w.cell? ⟨g, i, none⟩ = some (.int .i64 (d : Int)) := by
  have hl : i < ys.length := (List.getElem?_eq_some_iff.1 hi).1
  have := World.ownsRow.cellAt h i (by have := h.1; simp at this; omega)
  rw [this, List.getElem?_map, hi]
  rfl
theorem OwnI.stored {w : World} {B g n cap : Nat} {ys : List Nat} (h : OwnI w B (.slice (some ⟨g, 0, none⟩) n cap) n ys) (j : Nat) (x : Nat) : OwnI (w.setCell ⟨g, j, none⟩ (.int .i64 (x : Int))) B (.slice (some ⟨g, 0, none⟩) n cap) n (ys.set j x) := by
  have := (World.ownsRow.stored h j (icell x)).1
  unfold OwnI
  rw [List.map_set]
  exact this
theorem OwnI.shape {w : World} {B n : Nat} {v : Value} {ys : List Nat} (h : OwnI w B v n ys) (hne : 0 < n) : ∃ g cap, v = .slice (some ⟨g, 0, none⟩) n cap ∧ B ≤ g := by
  obtain ⟨_, ⟨h0, h1⟩ | ⟨g, cap, cur, hv, hb, _⟩⟩ := h
  · omega
  · exact ⟨g, cap, hv, hb⟩
/- the row while it is doubled: j places to go -/
def ist (zs : List Nat) (j : Nat) : List Nat := zs.take j ++ (dbl (zs.drop j)).2
theorem ist_len (zs : List Nat) (j : Nat) (h : j ≤ zs.length) : (ist zs j).length = zs.length := by
  unfold ist
  rw [List.length_append, dbl_len, List.length_take, List.length_drop]
  omega
theorem ist_get (zs : List Nat) (k : Nat) (h : k < zs.length) : (ist zs (k + 1))[k]? = zs[k]? := by
  unfold ist
  rw [List.getElem?_append_left (by simp; omega), List.getElem?_take, if_pos (by omega)]
theorem ist_set (zs : List Nat) (k : Nat) (h : k < zs.length) (x : Nat) (hx : dbl (zs.drop k) = ((dbl (zs.drop k)).1, x :: (dbl (zs.drop (k + 1))).2)) : (ist zs (k + 1)).set k x = ist zs k := by
  have e : (dbl (zs.drop k)).2 = x :: (dbl (zs.drop (k + 1))).2 := by rw [hx]
  unfold ist
  rw [e, List.set_append, if_pos (by simp; omega), List.take_succ_eq_append_getElem h, List.set_append, if_neg (by simp; omega)]
  have : k - (List.take k zs).length = 0 := by simp; omega
  rw [this]
  simp

theorem icell_rfl (d : Nat) : icell d = .int .i64 (d : Int) := rfl

set_option maxHeartbeats 4000000 in
theorem bits_core (s : ByteArray) (w : World) (hs : s.size ≤ 40) (hd : s.data.toList.all isDig = true) (z : List Nat) (hz : s.data.toList.map dv = z) (R : Nat) (ZS : List Nat) (hR : ∀ k, k = 16 → dblK k z = (R, ZS)) :
    Calls Tryd.prog 29 #[.string s] w fun e w' => ∃ v, e = .returned (.tuple #[.int .i64 R, v]) ∧ OwnI w' w.heap.size v s.size ZS ∧ Below w.heap.size w w' := by
  have hs' : (s.size : Int) ≤ 40 := by omega
  have hzl : z.length = s.size := by rw [← hz, List.length_map, size_list]
  have hdig : ∀ k (h : k < s.size), ∃ d : Nat, (s[k].toNat : Int) = 48 + (d : Int) ∧ d ≤ 9 ∧ z.take (k + 1) = z.take k ++ [d] := by
    intro k h
    have hb := List.mem_iff_getElem?.2 ⟨k, get_byte' s k h⟩
    rw [List.all_eq_true] at hd
    have h2 := dv_le _ (hd _ hb)
    refine ⟨dv s[k], h2.2, h2.1, ?_⟩
    rw [← hz, ← List.map_take, ← List.map_take, take_byte s k h, List.map_append]
    rfl
  have hsm : smallD z := by rw [← hz]; exact small_dv _ hd
  have HDIG := hide hdig
  have HZL := hide hzl
  have HSM := hide hsm
  have HR := hide hR
  obtain ⟨i0, hi, hz0, hz1, hz2⟩ := info_parts info_int
  have HI := hide hi
  have HI0 := hide hz0
  have HI1 := hide hz1
  have HI2 := hide hz2
  clear hdig hzl hsm hR hd hz hi hz0 hz1 hz2
  go_enter Tryd.func29, Tryd.ntmps29
  go_wp2_with fail
  go_loopw [4, 5] (fun v vi wr => ∃ k : Nat, vi = .int .i64 k ∧ Hid (k ≤ s.size ∧ OwnI wr w.heap.size v k (z.take k) ∧ Below w.heap.size w wr ∧ (k = 0 → v = .slice none 0 0))) (fun _ vi _ => s.size - (intOf vi).toNat)
  case atStart => exact ⟨0, rfl, hide ⟨by omega, World.ownsRow_nil _ _ _ _, Below.refl _ _, fun _ => rfl⟩⟩
  case round =>
    obtain ⟨k, rfl, HK⟩ := hrel
    obtain ⟨k1, k2, k3, k4⟩ := HK.out
    clear HK
    by_cases hlt : k < s.size
    · have hlt' : (k : Int) < (s.size : Int) := by omega
      obtain ⟨d, d1, d2, d3⟩ := HDIG.out k hlt
      have d4 : (d : Int) ≤ 9 := by omega
      have K2 := hide k2
      have K3 := hide k3
      have D3 := hide d3
      have hsz := k3.size
      clear k2 k3 k4 d3 d2
      go_wp2_with (at_builtin; refine wpList_append_own _ rfl _ _ 47 rfl w.heap.size 3 i0 (.int .i64 0) 1 8 Tryd.underlying47 HI.out HI0.out HI1.out HI2.out rfl (by decide) _ _ _ rfl (K2.out.alloc _) ⟨wr.heap.size, 0, none⟩ 1 1 [.int .i64 (48 + (d : Int) - 48)] rfl rfl ?d1 ?d2 ?d3 ?d4 ?d5 ?_)
      case d1 =>
        intro j u hj
        match j, hj with
        | 0, hj => simp at hj; subst hj; simp [Addr.add]
      case d2 => intro u hu; simp at hu; subst hu; rfl
      case d3 => unfold maxLen; omega
      case d4 => omega
      case d5 => simp; omega
      intro v2 w2 hown2 hgrow2 _
      have HB2 := hide (show Below w.heap.size w w2 from (K3.out.alloc hsz _).grown hgrow2 (by simp; omega) (fun k hk => (K2.out.lt k hk).1))
      have HO2 := hide (show OwnI w2 w.heap.size v2 (k + 1) (z.take (k + 1)) by
        unfold OwnI
        rw [D3.out, List.map_append, show [d].map icell = [Value.int .i64 (48 + (d : Int) - 48)] from congrArg (fun x => [Value.int .i64 x]) (by omega)]
        simpa using hown2)
      clear hown2 hgrow2
      go_wp2
      go_roundw
      case rel => exact ⟨k + 1, by go_num, hide ⟨by omega, HO2.out, HB2.out, fun h => absurd h (by omega)⟩⟩
      case measure => simp [intOf]; omega
    · have hlt' : ¬ (k : Int) < (s.size : Int) := by omega
      obtain rfl : k = s.size := by omega
      rw [List.take_of_length_le (by have := HZL.out; omega)] at k2
      by_cases h0 : s.size = 0
      · rcases (show u4 = .slice none 0 0 from k4 h0) with rfl
        have hz0 : z = [] := List.eq_nil_of_length_eq_zero (by have := HZL.out; omega)
        have hk16 : ∀ k, dblK k z = (0, []) := by
          intro k
          rw [hz0]
          induction k with
          | zero => rfl
          | succ k ih => unfold dblK; rw [ih]; rfl
        have hRZ := (HR.out 16 rfl).symm.trans (hk16 16)
        obtain ⟨rfl, rfl⟩ := Prod.mk.inj hRZ
        have K3 := hide k3
        have HS0 := hide h0
        clear k1 k2 k3 k4 hz0 hk16 hRZ HR HZL HSM HDIG
        go_wp2_with fail
        go_loopw [6, 7] (fun vn vk wr => ∃ k : Nat, vk = .int .i64 k ∧ vn = .int .i64 0 ∧ Hid (k ≤ 16 ∧ Below w.heap.size w wr)) (fun _ vk _ => 16 - (intOf vk).toNat)
        case atStart => exact ⟨0, rfl, rfl, hide ⟨by omega, K3.out⟩⟩
        case round =>
          obtain ⟨k, rfl, rfl, HK⟩ := hrel
          obtain ⟨k1, k2⟩ := HK.out
          clear HK
          have K2 := hide k2
          by_cases hk : k < 16
          · have hk' : (k : Int) ≤ 15 := by omega
            clear k1 k2 hk
            go_wp2_with fail
            go_loopw [8, 9] (fun vc vi wr' => vc = .int .i64 0 ∧ vi = .int .i64 (-1) ∧ Hid (Below w.heap.size w wr')) (fun _ _ _ => 0)
            case atStart => exact ⟨rfl, rfl, K2⟩
            case round =>
              obtain ⟨rfl, rfl, HB⟩ := hrel
              go_wp2
              go_roundw
              case rel => exact ⟨k + 1, by go_num, rfl, hide ⟨by omega, HB.out⟩⟩
              case measure => simp [intOf]; omega
          · have hk' : (16 : Int) ≤ (k : Int) := by omega
            clear k1 k2 hk
            go_wp2
            exact bodyPost_ret (v := .tuple #[.int .i64 0, .slice none 0 0]) (by simp [results, Tryd.results29, go_sem]) rfl ⟨.slice none 0 0, rfl, by rw [HS0.out]; exact World.ownsRow_nil _ _ _ _, K2.out⟩
      · obtain ⟨g, cap, hv, hgB⟩ := k2.shape (by omega)
        subst hv
        have K2 := hide k2
        have K3 := hide k3
        have hk0 := HZL.out
        have HL2 := hide (fun k => (dblK_spec k z HSM.out).1.trans hk0)
        have HS2 := hide (fun k => (dblK_spec k z HSM.out).2.1)
        have HLE := hide (fun k => dblK_le k z HSM.out)
        clear k1 k2 k3 k4 hk0 HDIG
        go_wp2_with fail
        go_loopw [6, 7] (fun vn vk wr => ∃ k n : Nat, vk = .int .i64 k ∧ vn = .int .i64 n ∧ Hid (k ≤ 16 ∧ (dblK k z).1 = n ∧ OwnI wr w.heap.size (.slice (some ⟨g, 0, none⟩) s.size cap) s.size (dblK k z).2 ∧ Below w.heap.size w wr)) (fun _ vk _ => 16 - (intOf vk).toNat)
        case atStart => exact ⟨0, 0, rfl, rfl, hide ⟨by omega, rfl, K2.out, K3.out⟩⟩
        case round =>
          obtain ⟨k, n, rfl, rfl, HK⟩ := hrel
          obtain ⟨k1, k2, k3, k4⟩ := HK.out
          clear HK
          by_cases hk : k < 16
          · have hk' : (k : Int) ≤ 15 := by omega
            have hn : (n : Int) ≤ 65535 := by
              have h1 := HLE.out k
              have h2 : 2 ^ k ≤ 2 ^ 16 := Nat.pow_le_pow_right (by decide) (by omega)
              omega
            obtain ⟨zs, hzs⟩ : ∃ zs, (dblK k z).2 = zs := ⟨_, rfl⟩
            have hlz : zs.length = s.size := by rw [← hzs]; exact HL2.out k
            have hsz : smallD zs := by rw [← hzs]; exact HS2.out k
            have HN1 := hide (show (dblK (k + 1) z).1 = 2 * n + (dbl zs).1 by rw [← k2, ← hzs]; rfl)
            have HN2 := hide (show (dblK (k + 1) z).2 = (dbl zs).2 by rw [← hzs]; rfl)
            have hc1 : ∀ j, (dbl (zs.drop j)).1 ≤ 1 := fun j => dbl_one _ (fun d hd => hsz d (List.mem_of_mem_drop hd))
            have HC1 := hide hc1
            have HSZ := hide hsz
            have HLZ := hide hlz
            rw [hzs] at k3
            have K3' := hide k3
            have K4 := hide k4
            have HD0 := hide (show dbl (zs.drop s.size) = (0, []) by rw [List.drop_eq_nil_of_le (by omega)]; rfl)
            clear k1 k2 k3 k4 hk hzs hlz hsz hc1
            go_wp2_with fail
            go_loopw [8, 9] (fun vc vi wr' => ∃ (j c : Nat) (x : Int), vi = .int .i64 x ∧ vc = .int .i64 c ∧ Hid (x = (j : Int) - 1 ∧ j ≤ s.size ∧ (dbl (zs.drop j)).1 = c ∧ OwnI wr' w.heap.size (.slice (some ⟨g, 0, none⟩) s.size cap) s.size (ist zs j) ∧ Below w.heap.size w wr')) (fun _ vi _ => (intOf vi + 1).toNat)
            case atStart =>
              refine ⟨s.size, 0, _, rfl, rfl, hide ⟨rfl, Nat.le_refl _, by rw [HD0.out], ?_, K4.out⟩⟩
              have : ist zs s.size = zs := by unfold ist; rw [HD0.out, List.take_of_length_le (by have := HLZ.out; omega)]; simp
              rw [this]
              exact K3'.out
            case round =>
              obtain ⟨j, c, x, rfl, rfl, HJ⟩ := hrel
              obtain ⟨j1, j2, j3, j4, j5⟩ := HJ.out
              clear HJ
              have hc : (c : Int) ≤ 1 := by have := HC1.out j; omega
              cases j with
              | zero =>
                obtain rfl : x = -1 := by omega
                rw [List.drop_zero] at j3
                rw [show ist zs 0 = (dbl zs).2 by simp [ist], ← HN2.out] at j4
                have J4 := hide j4
                have J5 := hide j5
                have HN3 := hide (show (dblK (k + 1) z).1 = 2 * n + c by rw [HN1.out, j3])
                clear j1 j2 j3 j4 j5
                go_wp2
                go_roundw
                case rel => exact ⟨k + 1, 2 * n + c, by go_num, by go_num, hide ⟨by omega, HN3.out, J4.out, J5.out⟩⟩
                case measure => simp [intOf]; omega
              | succ i =>
                obtain rfl : x = (i : Int) := by omega
                have hi' : (i : Int) < (s.size : Int) := by omega
                have hiz : i < zs.length := by have := HLZ.out; omega
                have hget := ist_get zs i hiz
                rw [List.getElem?_eq_getElem hiz] at hget
                have hcell := j4.at i _ hget
                have hd9 : zs[i] ≤ 9 := HSZ.out _ (List.getElem_mem hiz)
                have hdrop : zs.drop i = zs[i] :: zs.drop (i + 1) := List.drop_eq_getElem_cons hiz
                have hdb : dbl (zs.drop i) = ((2 * zs[i] + c) / 10, (2 * zs[i] + c) % 10 :: (dbl (zs.drop (i + 1))).2) := by rw [hdrop, dbl_cons, j3]
                generalize zs[i] = d at *
                have hst := ist_set zs i hiz ((2 * d + c) % 10) (by rw [hdb])
                have J4' := j4.stored i ((2 * d + c) % 10)
                rw [hst] at J4'
                have HQM := hide (show 2 * d + c = 10 * ((2 * d + c) / 10) + (2 * d + c) % 10 ∧ (2 * d + c) % 10 < 10 by omega)
                have hdd : (d : Int) ≤ 9 := by omega
                have J6 := hide (show (dbl (zs.drop i)).1 = (2 * d + c) / 10 by rw [hdb])
                have hfz : wr.frozen? ⟨g, i, none⟩ = false := World.ownsRow.frozenAt j4 i
                have q1 : (2 * (d : Int) + (c : Int)) / 10 = (((2 * d + c) / 10 : Nat) : Int) := by omega
                have q2 : (2 * (d : Int) + (c : Int)) % 10 = (((2 * d + c) % 10 : Nat) : Int) := by omega
                have J5 := hide j5
                generalize (2 * d + c) / 10 = Q at *
                generalize (2 * d + c) % 10 = M at *
                have J7 := hide J4'
                clear j1 j2 j3 j4 j5 hget hd9 hdrop hdb hst J4' hiz
                go_wp2
                go_roundw
                case rel => exact ⟨i, Q, _, rfl, by first | rfl | exact congrArg _ q1, hide ⟨by omega, by omega, J6.out, by first | exact J7.out | (rw [q2]; exact J7.out), J5.out.setCell hgB _⟩⟩
                case measure => simp [intOf]; try omega
          · have hk' : (16 : Int) ≤ (k : Int) := by omega
            have hk16 := HR.out k (by omega)
            obtain rfl : n = R := by rw [← k2, hk16]
            rw [hk16] at k3
            have K3' := hide k3
            have K4 := hide k4
            clear k1 k2 k3 k4 hk HR hk16
            go_wp2
            exact bodyPost_ret (v := .tuple #[.int .i64 n, .slice (some ⟨g, 0, none⟩) s.size cap]) (by simp [results, Tryd.results29, go_sem]) rfl ⟨_, rfl, K3'.out, K4.out⟩
end Go.Proofs.YtdmfmiejjghfnaaDoor
