/-
  What the landed reader's word answers at the text of a reference.
-/
import Derived.Test.YtcgoklacjniemaaGreatDoorO5Wrd
import Derived.Test.YtcgoklacjniemaaGreatDoorO5Goo
namespace Go.Proofs.YtcgoklacjniemaaGreatDoor
open Go.RowKit Go.Deep

theorem word_le (s : ByteArray) (a : Nat) (h : a ≤ s.size) : a ≤ wordV s.data.toList a ∧ wordV s.data.toList a ≤ s.size := by
  unfold wordV
  have := run_le (fun b => !isEnd b) (s.data.toList.drop a)
  rw [List.length_drop, ← Lib.size_eq] at this
  omega
theorem word_step (s : ByteArray) (k : Nat) : wordV s.data.toList k = if endV s.data.toList k then k else wordV s.data.toList (k + 1) := by
  unfold wordV endV
  rcases Nat.lt_or_ge k s.size with hl | hl
  · rw [drop_at s k hl, run]
    by_cases he : isEnd s[k].toNat = true
    · simp [he]
    · simp [he]; omega
  · rw [List.drop_eq_nil_of_le (by rw [← Lib.size_eq]; omega)]
    simp [run]
theorem atoi_any (W : ByteArray) (x : Int) (h : Lib.atoiAll W.data.toList = .ok x) (hW : W.size ≤ 16777216) (w : World) :
    Calls Tryz.prog 84 #[.string W] w fun e w' => e = .returned (.tuple #[.int .i64 x, .nilIface]) ∧ Below w.heap.size w w' := by
  refine (Any.strconv_Atoi_ok laysC172 W (by omega) x h w).mono ?_
  rintro e w' ⟨rfl, rfl | ⟨t, rfl⟩⟩
  · exact ⟨rfl, Below.refl _ _⟩
  · exact ⟨rfl, Lib.bytesWorld_below _ _ _⟩
theorem itoa_small (x : Nat) (h : x < 100) (w : World) : Calls Tryz.prog 85 #[.int .i64 x] w fun e w' => e = .returned (.string ⟨(Lib.decDigits x).toArray⟩) ∧ w' = w := Any.strconv_Itoa_small lays171 x h w
theorem But.more {b B : Nat} {w wf wg : World} (h : But b w wf) (hb : Below B wf wg) (hB : w.heap.size ≤ B) : But b w wg :=
  ⟨hb.os.trans h.os, hb.tape.trans h.tape, hb.output.trans h.output, Nat.le_trans h.size hb.size, fun k h1 h2 => (hb.block k (by omega)).trans (h.block k h1 h2)⟩
theorem st6_but {b B : Nat} {w wf : World} (h : But b w wf) (hB : w.heap.size ≤ B) (v0 v1 v2 v3 v4 v5 : Value) : But b w (st6 wf B v0 v1 v2 v3 v4 v5) :=
  h.more (st6_below (Below.refl w.heap.size wf) hB v0 v1 v2 v3 v4 v5) (Nat.le_refl _)
theorem st6_rat {b B : Nat} {wf : World} {s : ByteArray} {a : Nat} {l : Int} (h : RAt wf b s a l) (hne : b ≠ B) (v0 v1 v2 v3 v4 v5 : Value) : RAt (st6 wf B v0 v1 v2 v3 v4 v5) b s a l := (st6_block (w := wf) (b := B) (k := b) hne v0 v1 v2 v3 v4 v5).trans h
theorem word_fin {R : Ending → World → Prop} {a : Act} {w : World} {B : Nat} {v0 v1 v2 v3 v4 v5 : Value} {t : TypeId} (hk : Blk w B #[v0, v1, v2, v3, v4, v5] t) (h2 : a.tmps[2]?.getD undef = .pointer (some ⟨B, 0, none⟩)) (hd : a.defers = []) (h : R (.returned (.agg #[v0, v1, v2, v3, v4, v5])) w) :
    bodyPost Tryz.prog Tryz.f57 R Exit.ret a w := by
  obtain ⟨⟨f0, f1, f2, f3, f4, f5⟩, _⟩ := hk.six
  refine bodyPost_ret (v := .agg #[v0, v1, v2, v3, v4, v5]) ?_ hd h
  simp [results, Tryz.results57, go_sem, f0, f1, f2, f3, f4, f5, h2]
set_option maxRecDepth 8000 in
set_option maxHeartbeats 4000000 in
theorem word_ref (b : Nat) (s : ByteArray) (a : Nat) (l : Int) (w : World) (h : RAt w b s a l) (hs : s.size ≤ 16777216) (ha : a ≤ s.size) (E : Nat) (hE : wordV s.data.toList a = E) (W : ByteArray) (hW : s.extract a E = W) (x : Nat) (hx : x < 100)
    (n0 : (W.toList == [110, 117, 108, 108]) = false) (n1 : (W.toList == [116, 114, 117, 101]) = false) (n2 : (W.toList == [102, 97, 108, 115, 101]) = false) (hA : Lib.atoiAll W.data.toList = .ok (x : Int)) (hI : (⟨(Lib.decDigits x).toArray⟩ : ByteArray) = W) (e2 : Nat) (hr : refV s.data.toList E = some e2) :
    Calls Tryz.prog 57 #[.pointer (some ⟨b, 0, none⟩)] w fun e w' => e = .returned (ov ⟨8, false, x, ⟨#[]⟩, []⟩ none 0 none 0 0) ∧ But b w w' ∧ RAt w' b s e2 l := by
  have hEb := word_le s a ha
  rw [hE] at hEb
  have hlt : b < w.heap.size := Blk.lt h
  have hWs : W.size ≤ 16777216 := by
    rw [← hW]
    have : (s.extract a E).size = (s.extract a E).data.toList.length := Lib.size_eq _
    rw [this, Lib.extract_data, List.length_take]
    omega
  have CA := hide (fun w => atoi_any W x hA hWs w)
  have CI : Hid (∀ w, Calls Tryz.prog 85 #[.int .i64 (x : Int)] w fun e w' => e = .returned (.string W) ∧ w' = w) := hide (fun w => by rw [← hI]; exact itoa_small x hx w)
  have CR := hide (fun w' (h' : RAt w' b s E l) => takeRefEnd_any b s E l w' h' hs hEb.2)
  rw [hr] at CR
  have CE := hide (fun k w' (h' : RAt w' b s k l) (hk : k ≤ s.size) => atEnd_any b s k l w' h' hs hk)
  have hs' : (s.size : Int) ≤ 16777216 := by omega
  have H := hide h
  obtain ⟨⟨c0, c1, c2⟩, z0, z1, z2⟩ := h.three
  have HZ : Hid (Below w.heap.size w (w.alloc (.cells zobj 25))) := hide ((Below.refl _ _).alloc (Nat.le_refl _) _)
  have HK : Hid (Blk (w.alloc (.cells zobj 25)) w.heap.size zobj 25) := hide (Blk.new _ _ _)
  have HE := hide hE
  clear hA hI hr h hx hWs hE
  go_enter Tryz.func57, Tryz.ntmps57
  go_wp2_with fail
  go_loopg [13] (s.size - a) (fun g _ wr => ∃ k : Nat, Hid (k ≤ s.size ∧ g = s.size - k ∧ wordV s.data.toList k = E ∧ But b w wr ∧ RAt wr b s k l ∧ Blk wr w.heap.size zobj 25))
  case atStart => exact ⟨a, hide ⟨ha, rfl, HE.out, But.of_below HZ.out, Blk.below H.out HZ.out, HK.out⟩⟩
  case round =>
    obtain ⟨k, HV⟩ := hrel
    obtain ⟨k1, kg, k2, k3, k4, k5⟩ := HV.out
    clear HV c0 c1 c2 z0 z1 z2
    obtain ⟨⟨c0, c1, c2⟩, z0, z1, z2⟩ := k4.three
    have H3 := hide k3
    have H4 := hide k4
    have H5 := hide k5
    have HG := hide kg
    have hk0 : (0 : Int) ≤ (k : Int) := by omega
    have st := word_step s k
    rw [k2] at st
    clear kg k3 k4 k5 k2
    cases he : endV s.data.toList k
    · rw [he, if_neg (by simp)] at st
      have hk2 : k < s.size := by
        rcases Nat.lt_or_ge k s.size with h | h
        · exact h
        · unfold endV at he
          rw [List.drop_eq_nil_of_le (by rw [← Lib.size_eq]; omega)] at he
          cases he
      have ST := hide st
      clear st
      go_wp2_with (go_at_call 83; refine (CE.out k _ H4.out k1).mono ?_; rintro e w2 ⟨rfl, n, rfl⟩; rw [he])
      go_roundg (s.size - (k + 1))
      case measure => have := HG.out; omega
      case rel => exact ⟨k + 1, hide ⟨hk2, rfl, ST.out.symm, (H3.out.drewN _).trans (But.setCell b _ 1 _), (RAt.drewN H4.out _).at1 (k + 1), (Blk.below H5.out (below_drewN' _ _)).other (by omega) 1 _⟩⟩
    · rw [he, if_pos rfl] at st
      subst st
      have ha1 : (a : Int) ≤ (E : Int) := by omega
      have ha2 : (E : Int) ≤ (s.size : Int) := by omega
      have ha0 : (0 : Int) ≤ (a : Int) := by omega
      go_wp2_with (go_at_call 83; refine (CE.out E _ H4.out k1).mono ?_; rintro e w2 ⟨rfl, n, rfl⟩; rw [he])
      clear HE HK HZ H
      go_quiet (fail)
      go_wp2_with fail
      refine (CA.out _).mono ?_
      rintro e wa ⟨rfl, hya⟩
      have HYA := hide hya
      clear hya
      go_wp2_with (first | (go_at_call 85; refine (CI.out _).mono ?_; rintro e wi ⟨rfl, rfl⟩))
      have hbw : Below wr.heap.size wr wi := below_d5 (Below.refl _ _) HYA.out rfl rfl rfl rfl
      refine (CR.out _ (Blk.below H4.out hbw)).mono ?_
      rintro e wf ⟨rfl, h1, h2⟩
      have hk5 := (H5.out.below hbw).but h1 (by omega)
      have HBF := hide ((H3.out.trans (But.of_below hbw)).trans h1)
      have HRF := hide h2
      have HKF := hide hk5
      obtain ⟨⟨r0, r1, r2, r3, r4, r5⟩, ⟨y0, y1, y2, y3, y4, y5⟩⟩ := hk5.six
      clear h1 h2 hk5 hbw
      go_wp2_with fail
      refine word_fin (st6_blk HKF.out (.int .i64 8) (.bool false) (.int .i64 x) (.string ⟨#[]⟩) (.slice none 0 0) (.slice none 0 0)) rfl rfl ⟨rfl, st6_but HBF.out (Nat.le_refl _) _ _ _ _ _ _, st6_rat HRF.out (Nat.ne_of_lt hlt) _ _ _ _ _ _⟩
end Go.Proofs.YtcgoklacjniemaaGreatDoor
