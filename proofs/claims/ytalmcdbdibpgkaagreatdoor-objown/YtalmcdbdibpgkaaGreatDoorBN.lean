/-
  Joined: O5Wg.
-/
import Derived.Test.YtalmcdbdibpgkaaGreatDoorBM
import Derived.Test.YtalmcdbdibpgkaaGreatDoorBC
import Derived.Test.YtalmcdbdibpgkaaGreatDoorBI
import Derived.Shelf.Strconv.Itoa3
/-
  What the landed word answers, whatever stands there.
-/
namespace Go.Proofs.YtalmcdbdibpgkaaGreatDoor
open Go.RowKit Go.Deep
set_option linter.unusedVariables false

abbrev zp (k : Int) (f : Bool) (n : Int) : Pay := ⟨k, f, n, ⟨#[]⟩, []⟩
/- what a word is as an int: it is written as itself -/
def aiV (l : List UInt8) : Option Int := match Lib.atoiAll l with
  | .ok x => if Lib.itoa x = l then some x else none
  | _ => none
def wdP (l wl : List UInt8) (E : Nat) : Option (Pay × Nat) :=
  if wl = [110, 117, 108, 108] then some (zp 0 false 0, E) else if wl = [116, 114, 117, 101] then some (zp 1 true 0, E) else if wl = [102, 97, 108, 115, 101] then some (zp 1 false 0, E)
  else match aiV wl with
    | some x => (match refV l E with
      | some e2 => some (zp 8 false x, e2)
      | none => some (zp 2 false x, E))
    | none => if D2.parB wl = true then some (zp 3 false (D2.parV wl), E) else none
def wdV (l : List UInt8) (a : Nat) : Option (Pay × Nat) := wdP l ((l.drop a).take (wordV l a - a)) (wordV l a)
def WdR (W0 : World) (b : Nat) (w : World) (s : ByteArray) (l : Int) (R : Option (Pay × Nat)) (e : Ending) (w' : World) : Prop := match R with
  | some (p, q) => e = .returned (ov p none 0 none 0 0) ∧ But b w w' ∧ RC W0 b w' s q l
  | none => e = thrown ∧ But b w w'
theorem atoi_bad (W : ByteArray) (h : ∀ x, Lib.atoiAll W.data.toList ≠ .ok x) (hW : W.size ≤ 16777216) (w : World) (hg : Glo5 w) :
    Calls Tryz.prog 75 #[.string W] w fun e w' => (∃ v tp p, e = .returned (.tuple #[.int .i64 v, .iface tp p])) ∧ Below w.heap.size w w' := by
  cases hc : Lib.atoiAll W.data.toList with
  | ok x => exact absurd hc (h x)
  | «syntax» =>
    obtain ⟨tp, p, hv⟩ := hg.syn
    refine (Any.strconv_Atoi_syntax laysC172 W (by omega) hc (.iface tp p) w hv (Or.inr ⟨tp, p, rfl⟩)).mono ?_
    rintro e w' ⟨N, rfl, _, _, hb⟩
    exact ⟨⟨_, _, _, rfl⟩, hb⟩
  | range =>
    obtain ⟨tp, p, hv⟩ := hg.rng
    refine (Any.strconv_Atoi_range laysC172 W (by omega) hc (.iface tp p) w hv (Or.inr ⟨tp, p, rfl⟩)).mono ?_
    rintro e w' ⟨N, rfl, _, _, hb⟩
    exact ⟨⟨_, _, _, rfl⟩, hb⟩
theorem atoi_bd {l : List UInt8} {x : Int} (h : Lib.atoiAll l = .ok x) : -9223372036854775808 ≤ x ∧ x ≤ 9223372036854775807 := by
  unfold Lib.atoiAll at h
  split at h
  · cases h
  · simp only at h
    split at h
    · cases h
    · cases h
    · split at h
      · cases h
      · split at h
        · cases h
        · rename_i h1 h2
          simp only [Lib.NumEnd.ok.injEq] at h
          split at h <;> omega
theorem itoa_rc (x : Int) (h : -9223372036854775808 ≤ x ∧ x ≤ 9223372036854775807) (w : World) (hg : Glo5 w) :
    Calls Tryz.prog 76 #[.int .i64 x] w fun e w' => e = .returned (.string ⟨(Lib.itoa x).toArray⟩) ∧ Below w.heap.size w w' := by
  refine (Any.strconv_Itoa laysM171 x h.1 h.2 w hg.base.tab).mono ?_
  rintro e w' ⟨rfl, k, os, rfl⟩
  exact ⟨rfl, ⟨rfl, rfl, rfl, by simp [Sort.grow], fun i hi => by
    show ((w.drewN k).heap ++ os)[i]? = _
    rw [Array.getElem?_append_left (by show i < w.heap.size; omega)]
    rfl⟩⟩
theorem ref_le (s : ByteArray) (E e2 : Nat) (_hE : E ≤ s.size) (h : refV s.data.toList E = some e2) : e2 ≤ s.size := by
  unfold refV at h
  split at h
  · split at h
    · rename_i h1 h2
      have := tw_le s ⟨#[82]⟩ _ (by decide) h2
      simp only [Option.some.injEq] at h
      rw [← h]
      exact this
    · cases h
  · cases h
set_option maxRecDepth 8000 in
set_option maxHeartbeats 1000000 in
theorem wordg_null (W0 : World) (hg : Glo5 W0) (b : Nat) (s : ByteArray) (a : Nat) (l : Int) (w : World) (h : RC W0 b w s a l) (hs : s.size ≤ 16777216) (E : Nat) (hE : wordV s.data.toList a = E) (W : ByteArray) (hW : s.extract a E = W)
    (n0 : (W.toList == [110, 117, 108, 108]) = true) :
    Calls Tryz.prog 48 #[.pointer (some ⟨b, 0, none⟩)] w fun e w' => e = .returned (ov (zp 0 false 0) none 0 none 0 0) ∧ But b w w' ∧ RC W0 b w' s E l := by
  have ha := h.le
  have hEb := word_le s a ha
  rw [hE] at hEb
  have hlt : b < w.heap.size := h.lt
  have hWs : W.size ≤ 16777216 := by
    rw [← hW]
    have : (s.extract a E).size = (s.extract a E).data.toList.length := Lib.size_eq _
    rw [this, Lib.extract_data, List.length_take]
    omega
  have CE := hide (fun k w' (h' : RAt w' b s k l) (hk : k ≤ s.size) => atEnd_any b s k l w' h' hs hk)
  have hs' : (s.size : Int) ≤ 16777216 := by omega
  have H := hide h
  obtain ⟨⟨c0, c1, c2⟩, z0, z1, z2⟩ := h.rat.three
  have HZ : Hid (Below w.heap.size w (w.alloc (.cells zobj 25))) := hide ((Below.refl _ _).alloc (Nat.le_refl _) _)
  have HK : Hid (Blk (w.alloc (.cells zobj 25)) w.heap.size zobj 25) := hide (Blk.new _ _ _)
  have HE := hide hE
  have HEB := hide hEb
  clear h hWs hE hg
  go_enter Tryz.func48, Tryz.ntmps48
  go_wp2_with fail
  go_loopg [13] (s.size - a) (fun g _ wr => ∃ k : Nat, Hid (k ≤ s.size ∧ g = s.size - k ∧ wordV s.data.toList k = E ∧ But b w wr ∧ RAt wr b s k l ∧ Blk wr w.heap.size zobj 25))
  case atStart => exact ⟨a, hide ⟨ha, rfl, HE.out, But.of_below HZ.out, Blk.below H.out.rat HZ.out, HK.out⟩⟩
  case round =>
    obtain ⟨k, HV⟩ := hrel
    obtain ⟨k1, kg, k2, k3, k4, k5⟩ := HV.out
    clear HV c0 c1 c2 z0 z1 z2
    obtain ⟨⟨c0, c1, c2⟩, z0, z1, z2⟩ := k4.three
    have H3 := hide k3
    have H4 := hide k4
    have H5 := hide k5
    have HG := hide kg
    have hk0 : (0 : Int) ≤ (k : Int) := by omega
    have st := word_step s k
    rw [k2] at st
    clear kg k3 k4 k5 k2
    cases he : endV s.data.toList k
    · rw [he, if_neg (by simp)] at st
      have hk2 : k < s.size := by
        rcases Nat.lt_or_ge k s.size with h | h
        · exact h
        · unfold endV at he
          rw [List.drop_eq_nil_of_le (by rw [← Lib.size_eq]; omega)] at he
          cases he
      have ST := hide st
      clear st
      go_wp2_with (go_at_call 74; refine (CE.out k _ H4.out k1).mono ?_; rintro e w2 ⟨rfl, n, rfl⟩; rw [he])
      go_roundg (s.size - (k + 1))
      case measure => have := HG.out; omega
      case rel => exact ⟨k + 1, hide ⟨hk2, rfl, ST.out.symm, (H3.out.drewN _).trans (But.setCell b _ 1 _), (RAt.drewN H4.out _).at1 (k + 1), (Blk.below H5.out (below_drewN' _ _)).other (by omega) 1 _⟩⟩
    · rw [he, if_pos rfl] at st
      subst st
      have ha1 : (a : Int) ≤ (E : Int) := by omega
      have ha2 : (E : Int) ≤ (s.size : Int) := by omega
      have ha0 : (0 : Int) ≤ (a : Int) := by omega
      go_wp2_with (go_at_call 74; refine (CE.out E _ H4.out k1).mono ?_; rintro e w2 ⟨rfl, n, rfl⟩; rw [he])
      clear HE HK HZ
      go_quiet (fail)
      clear c0 c1 c2 z0 z1 z2
      obtain ⟨⟨r0, r1, r2, r3, r4, r5⟩, ⟨y0, y1, y2, y3, y4, y5⟩⟩ := H5.out.six
      go_wp2_with fail
      have HBF := hide (H3.out.drewN (n + nq))
      have HKF := hide (Blk.below H5.out (below_drewN' _ (n + nq)))
      have HRF := hide (RAt.drewN H4.out (n + nq))
      refine word_fin (st6_blk HKF.out (.int .i64 0) (.bool false) (.int .i64 0) (.string ⟨#[]⟩) (.slice none 0 0) (.slice none 0 0)) rfl rfl ⟨rfl, st6_but HBF.out (Nat.le_refl _) _ _ _ _ _ _, H.out.but (st6_but HBF.out (Nat.le_refl _) _ _ _ _ _ _) (st6_rat HRF.out (Nat.ne_of_lt hlt) _ _ _ _ _ _) HEB.out.2⟩
set_option maxRecDepth 8000 in
set_option maxHeartbeats 1000000 in
theorem wordg_true (W0 : World) (hg : Glo5 W0) (b : Nat) (s : ByteArray) (a : Nat) (l : Int) (w : World) (h : RC W0 b w s a l) (hs : s.size ≤ 16777216) (E : Nat) (hE : wordV s.data.toList a = E) (W : ByteArray) (hW : s.extract a E = W)
    (n0 : (W.toList == [110, 117, 108, 108]) = false) (n1 : (W.toList == [116, 114, 117, 101]) = true) :
    Calls Tryz.prog 48 #[.pointer (some ⟨b, 0, none⟩)] w fun e w' => e = .returned (ov (zp 1 true 0) none 0 none 0 0) ∧ But b w w' ∧ RC W0 b w' s E l := by
  have ha := h.le
  have hEb := word_le s a ha
  rw [hE] at hEb
  have hlt : b < w.heap.size := h.lt
  have hWs : W.size ≤ 16777216 := by
    rw [← hW]
    have : (s.extract a E).size = (s.extract a E).data.toList.length := Lib.size_eq _
    rw [this, Lib.extract_data, List.length_take]
    omega
  have CE := hide (fun k w' (h' : RAt w' b s k l) (hk : k ≤ s.size) => atEnd_any b s k l w' h' hs hk)
  have hs' : (s.size : Int) ≤ 16777216 := by omega
  have H := hide h
  obtain ⟨⟨c0, c1, c2⟩, z0, z1, z2⟩ := h.rat.three
  have HZ : Hid (Below w.heap.size w (w.alloc (.cells zobj 25))) := hide ((Below.refl _ _).alloc (Nat.le_refl _) _)
  have HK : Hid (Blk (w.alloc (.cells zobj 25)) w.heap.size zobj 25) := hide (Blk.new _ _ _)
  have HE := hide hE
  have HEB := hide hEb
  clear h hWs hE hg
  go_enter Tryz.func48, Tryz.ntmps48
  go_wp2_with fail
  go_loopg [13] (s.size - a) (fun g _ wr => ∃ k : Nat, Hid (k ≤ s.size ∧ g = s.size - k ∧ wordV s.data.toList k = E ∧ But b w wr ∧ RAt wr b s k l ∧ Blk wr w.heap.size zobj 25))
  case atStart => exact ⟨a, hide ⟨ha, rfl, HE.out, But.of_below HZ.out, Blk.below H.out.rat HZ.out, HK.out⟩⟩
  case round =>
    obtain ⟨k, HV⟩ := hrel
    obtain ⟨k1, kg, k2, k3, k4, k5⟩ := HV.out
    clear HV c0 c1 c2 z0 z1 z2
    obtain ⟨⟨c0, c1, c2⟩, z0, z1, z2⟩ := k4.three
    have H3 := hide k3
    have H4 := hide k4
    have H5 := hide k5
    have HG := hide kg
    have hk0 : (0 : Int) ≤ (k : Int) := by omega
    have st := word_step s k
    rw [k2] at st
    clear kg k3 k4 k5 k2
    cases he : endV s.data.toList k
    · rw [he, if_neg (by simp)] at st
      have hk2 : k < s.size := by
        rcases Nat.lt_or_ge k s.size with h | h
        · exact h
        · unfold endV at he
          rw [List.drop_eq_nil_of_le (by rw [← Lib.size_eq]; omega)] at he
          cases he
      have ST := hide st
      clear st
      go_wp2_with (go_at_call 74; refine (CE.out k _ H4.out k1).mono ?_; rintro e w2 ⟨rfl, n, rfl⟩; rw [he])
      go_roundg (s.size - (k + 1))
      case measure => have := HG.out; omega
      case rel => exact ⟨k + 1, hide ⟨hk2, rfl, ST.out.symm, (H3.out.drewN _).trans (But.setCell b _ 1 _), (RAt.drewN H4.out _).at1 (k + 1), (Blk.below H5.out (below_drewN' _ _)).other (by omega) 1 _⟩⟩
    · rw [he, if_pos rfl] at st
      subst st
      have ha1 : (a : Int) ≤ (E : Int) := by omega
      have ha2 : (E : Int) ≤ (s.size : Int) := by omega
      have ha0 : (0 : Int) ≤ (a : Int) := by omega
      go_wp2_with (go_at_call 74; refine (CE.out E _ H4.out k1).mono ?_; rintro e w2 ⟨rfl, n, rfl⟩; rw [he])
      clear HE HK HZ
      go_quiet (fail)
      clear c0 c1 c2 z0 z1 z2
      obtain ⟨⟨r0, r1, r2, r3, r4, r5⟩, ⟨y0, y1, y2, y3, y4, y5⟩⟩ := H5.out.six
      go_wp2_with fail
      have HBF := hide (H3.out.drewN (n + nq))
      have HKF := hide (Blk.below H5.out (below_drewN' _ (n + nq)))
      have HRF := hide (RAt.drewN H4.out (n + nq))
      refine word_fin (st6_blk HKF.out (.int .i64 1) (.bool true) (.int .i64 0) (.string ⟨#[]⟩) (.slice none 0 0) (.slice none 0 0)) rfl rfl ⟨rfl, st6_but HBF.out (Nat.le_refl _) _ _ _ _ _ _, H.out.but (st6_but HBF.out (Nat.le_refl _) _ _ _ _ _ _) (st6_rat HRF.out (Nat.ne_of_lt hlt) _ _ _ _ _ _) HEB.out.2⟩
set_option maxRecDepth 8000 in
set_option maxHeartbeats 1000000 in
theorem wordg_false (W0 : World) (hg : Glo5 W0) (b : Nat) (s : ByteArray) (a : Nat) (l : Int) (w : World) (h : RC W0 b w s a l) (hs : s.size ≤ 16777216) (E : Nat) (hE : wordV s.data.toList a = E) (W : ByteArray) (hW : s.extract a E = W)
    (n0 : (W.toList == [110, 117, 108, 108]) = false) (n1 : (W.toList == [116, 114, 117, 101]) = false) (n2 : (W.toList == [102, 97, 108, 115, 101]) = true) :
    Calls Tryz.prog 48 #[.pointer (some ⟨b, 0, none⟩)] w fun e w' => e = .returned (ov (zp 1 false 0) none 0 none 0 0) ∧ But b w w' ∧ RC W0 b w' s E l := by
  have ha := h.le
  have hEb := word_le s a ha
  rw [hE] at hEb
  have hlt : b < w.heap.size := h.lt
  have hWs : W.size ≤ 16777216 := by
    rw [← hW]
    have : (s.extract a E).size = (s.extract a E).data.toList.length := Lib.size_eq _
    rw [this, Lib.extract_data, List.length_take]
    omega
  have CE := hide (fun k w' (h' : RAt w' b s k l) (hk : k ≤ s.size) => atEnd_any b s k l w' h' hs hk)
  have hs' : (s.size : Int) ≤ 16777216 := by omega
  have H := hide h
  obtain ⟨⟨c0, c1, c2⟩, z0, z1, z2⟩ := h.rat.three
  have HZ : Hid (Below w.heap.size w (w.alloc (.cells zobj 25))) := hide ((Below.refl _ _).alloc (Nat.le_refl _) _)
  have HK : Hid (Blk (w.alloc (.cells zobj 25)) w.heap.size zobj 25) := hide (Blk.new _ _ _)
  have HE := hide hE
  have HEB := hide hEb
  clear h hWs hE hg
  go_enter Tryz.func48, Tryz.ntmps48
  go_wp2_with fail
  go_loopg [13] (s.size - a) (fun g _ wr => ∃ k : Nat, Hid (k ≤ s.size ∧ g = s.size - k ∧ wordV s.data.toList k = E ∧ But b w wr ∧ RAt wr b s k l ∧ Blk wr w.heap.size zobj 25))
  case atStart => exact ⟨a, hide ⟨ha, rfl, HE.out, But.of_below HZ.out, Blk.below H.out.rat HZ.out, HK.out⟩⟩
  case round =>
    obtain ⟨k, HV⟩ := hrel
    obtain ⟨k1, kg, k2, k3, k4, k5⟩ := HV.out
    clear HV c0 c1 c2 z0 z1 z2
    obtain ⟨⟨c0, c1, c2⟩, z0, z1, z2⟩ := k4.three
    have H3 := hide k3
    have H4 := hide k4
    have H5 := hide k5
    have HG := hide kg
    have hk0 : (0 : Int) ≤ (k : Int) := by omega
    have st := word_step s k
    rw [k2] at st
    clear kg k3 k4 k5 k2
    cases he : endV s.data.toList k
    · rw [he, if_neg (by simp)] at st
      have hk2 : k < s.size := by
        rcases Nat.lt_or_ge k s.size with h | h
        · exact h
        · unfold endV at he
          rw [List.drop_eq_nil_of_le (by rw [← Lib.size_eq]; omega)] at he
          cases he
      have ST := hide st
      clear st
      go_wp2_with (go_at_call 74; refine (CE.out k _ H4.out k1).mono ?_; rintro e w2 ⟨rfl, n, rfl⟩; rw [he])
      go_roundg (s.size - (k + 1))
      case measure => have := HG.out; omega
      case rel => exact ⟨k + 1, hide ⟨hk2, rfl, ST.out.symm, (H3.out.drewN _).trans (But.setCell b _ 1 _), (RAt.drewN H4.out _).at1 (k + 1), (Blk.below H5.out (below_drewN' _ _)).other (by omega) 1 _⟩⟩
    · rw [he, if_pos rfl] at st
      subst st
      have ha1 : (a : Int) ≤ (E : Int) := by omega
      have ha2 : (E : Int) ≤ (s.size : Int) := by omega
      have ha0 : (0 : Int) ≤ (a : Int) := by omega
      go_wp2_with (go_at_call 74; refine (CE.out E _ H4.out k1).mono ?_; rintro e w2 ⟨rfl, n, rfl⟩; rw [he])
      clear HE HK HZ
      go_quiet (fail)
      clear c0 c1 c2 z0 z1 z2
      obtain ⟨⟨r0, r1, r2, r3, r4, r5⟩, ⟨y0, y1, y2, y3, y4, y5⟩⟩ := H5.out.six
      go_wp2_with fail
      have HBF := hide (H3.out.drewN (n + nq))
      have HKF := hide (Blk.below H5.out (below_drewN' _ (n + nq)))
      have HRF := hide (RAt.drewN H4.out (n + nq))
      refine word_fin (st6_blk HKF.out (.int .i64 1) (.bool false) (.int .i64 0) (.string ⟨#[]⟩) (.slice none 0 0) (.slice none 0 0)) rfl rfl ⟨rfl, st6_but HBF.out (Nat.le_refl _) _ _ _ _ _ _, H.out.but (st6_but HBF.out (Nat.le_refl _) _ _ _ _ _ _) (st6_rat HRF.out (Nat.ne_of_lt hlt) _ _ _ _ _ _) HEB.out.2⟩
set_option maxRecDepth 8000 in
set_option maxHeartbeats 1000000 in
theorem wordg_ref (W0 : World) (hg : Glo5 W0) (b : Nat) (s : ByteArray) (a : Nat) (l : Int) (w : World) (h : RC W0 b w s a l) (hs : s.size ≤ 16777216) (E : Nat) (hE : wordV s.data.toList a = E) (W : ByteArray) (hW : s.extract a E = W)
    (n0 : (W.toList == [110, 117, 108, 108]) = false) (n1 : (W.toList == [116, 114, 117, 101]) = false) (n2 : (W.toList == [102, 97, 108, 115, 101]) = false) (x : Int) (hA : Lib.atoiAll W.data.toList = .ok x) (hI : (⟨(Lib.itoa x).toArray⟩ : ByteArray) = W) (e2 : Nat) (hr : refV s.data.toList E = some e2) :
    Calls Tryz.prog 48 #[.pointer (some ⟨b, 0, none⟩)] w fun e w' => e = .returned (ov (zp 8 false x) none 0 none 0 0) ∧ But b w w' ∧ RC W0 b w' s e2 l := by
  have ha := h.le
  have hEb := word_le s a ha
  rw [hE] at hEb
  have hlt : b < w.heap.size := h.lt
  have hWs : W.size ≤ 16777216 := by
    rw [← hW]
    have : (s.extract a E).size = (s.extract a E).data.toList.length := Lib.size_eq _
    rw [this, Lib.extract_data, List.length_take]
    omega
  have hbd := atoi_bd hA
  have CA := hide (fun w => atoi_any W x hA hWs w)
  have CI := fun x' (hx : Below W0.heap.size W0 x') => itoa_rc x hbd x' (hg.below hx)
  rw [hI] at CI
  have CI := hide CI
  have HLW := hide h.low
  have CR := hide (fun w' (h' : RAt w' b s E l) => takeRefEnd_any b s E l w' h' hs hEb.2)
  rw [hr] at CR
  have HE2 : Hid (e2 ≤ s.size) := hide (ref_le s E e2 hEb.2 hr)
  have CE := hide (fun k w' (h' : RAt w' b s k l) (hk : k ≤ s.size) => atEnd_any b s k l w' h' hs hk)
  have hs' : (s.size : Int) ≤ 16777216 := by omega
  have H := hide h
  obtain ⟨⟨c0, c1, c2⟩, z0, z1, z2⟩ := h.rat.three
  have HZ : Hid (Below w.heap.size w (w.alloc (.cells zobj 25))) := hide ((Below.refl _ _).alloc (Nat.le_refl _) _)
  have HK : Hid (Blk (w.alloc (.cells zobj 25)) w.heap.size zobj 25) := hide (Blk.new _ _ _)
  have HE := hide hE
  have HEB := hide hEb
  clear h hWs hE hg
  go_enter Tryz.func48, Tryz.ntmps48
  go_wp2_with fail
  go_loopg [13] (s.size - a) (fun g _ wr => ∃ k : Nat, Hid (k ≤ s.size ∧ g = s.size - k ∧ wordV s.data.toList k = E ∧ But b w wr ∧ RAt wr b s k l ∧ Blk wr w.heap.size zobj 25))
  case atStart => exact ⟨a, hide ⟨ha, rfl, HE.out, But.of_below HZ.out, Blk.below H.out.rat HZ.out, HK.out⟩⟩
  case round =>
    obtain ⟨k, HV⟩ := hrel
    obtain ⟨k1, kg, k2, k3, k4, k5⟩ := HV.out
    clear HV c0 c1 c2 z0 z1 z2
    obtain ⟨⟨c0, c1, c2⟩, z0, z1, z2⟩ := k4.three
    have H3 := hide k3
    have H4 := hide k4
    have H5 := hide k5
    have HG := hide kg
    have hk0 : (0 : Int) ≤ (k : Int) := by omega
    have st := word_step s k
    rw [k2] at st
    clear kg k3 k4 k5 k2
    cases he : endV s.data.toList k
    · rw [he, if_neg (by simp)] at st
      have hk2 : k < s.size := by
        rcases Nat.lt_or_ge k s.size with h | h
        · exact h
        · unfold endV at he
          rw [List.drop_eq_nil_of_le (by rw [← Lib.size_eq]; omega)] at he
          cases he
      have ST := hide st
      clear st
      go_wp2_with (go_at_call 74; refine (CE.out k _ H4.out k1).mono ?_; rintro e w2 ⟨rfl, n, rfl⟩; rw [he])
      go_roundg (s.size - (k + 1))
      case measure => have := HG.out; omega
      case rel => exact ⟨k + 1, hide ⟨hk2, rfl, ST.out.symm, (H3.out.drewN _).trans (But.setCell b _ 1 _), (RAt.drewN H4.out _).at1 (k + 1), (Blk.below H5.out (below_drewN' _ _)).other (by omega) 1 _⟩⟩
    · rw [he, if_pos rfl] at st
      subst st
      have ha1 : (a : Int) ≤ (E : Int) := by omega
      have ha2 : (E : Int) ≤ (s.size : Int) := by omega
      have ha0 : (0 : Int) ≤ (a : Int) := by omega
      go_wp2_with (go_at_call 74; refine (CE.out E _ H4.out k1).mono ?_; rintro e w2 ⟨rfl, n, rfl⟩; rw [he])
      clear HE HK HZ
      go_quiet (fail)
      go_wp2_with fail
      refine (CA.out _).mono ?_
      rintro e wa ⟨rfl, hya⟩
      have hyw : Below wr.heap.size wr wa := below_d5 (Below.refl _ _) hya rfl rfl rfl rfl
      have HYA := hide hyw
      have HLA := hide ((H3.out.trans (But.of_below (b := b) hyw)).below H.out.low H.out.hb)
      clear hya hyw
      go_wp2_with (first | (go_at_call 76; refine (CI.out _ HLA.out).mono ?_; rintro e wi ⟨rfl, hyi⟩; have HYI := hide (below_t5 HYA.out hyi); clear hyi))
      have hbw : Below wr.heap.size wr wi := HYI.out
      refine (CR.out _ (Blk.below H4.out hbw)).mono ?_
      rintro e wf ⟨rfl, h1, h2⟩
      have hk5 := (H5.out.below hbw).but h1 (by omega)
      have HBF := hide ((H3.out.trans (But.of_below hbw)).trans h1)
      have HRF := hide h2
      have HKF := hide hk5
      obtain ⟨⟨r0, r1, r2, r3, r4, r5⟩, ⟨y0, y1, y2, y3, y4, y5⟩⟩ := hk5.six
      clear h1 h2 hk5 hbw
      go_wp2_with fail
      refine word_fin (st6_blk HKF.out (.int .i64 8) (.bool false) (.int .i64 x) (.string ⟨#[]⟩) (.slice none 0 0) (.slice none 0 0)) rfl rfl ⟨rfl, st6_but HBF.out (Nat.le_refl _) _ _ _ _ _ _, H.out.but (st6_but HBF.out (Nat.le_refl _) _ _ _ _ _ _) (st6_rat HRF.out (Nat.ne_of_lt hlt) _ _ _ _ _ _) HE2.out⟩
set_option maxRecDepth 8000 in
set_option maxHeartbeats 1000000 in
theorem wordg_int (W0 : World) (hg : Glo5 W0) (b : Nat) (s : ByteArray) (a : Nat) (l : Int) (w : World) (h : RC W0 b w s a l) (hs : s.size ≤ 16777216) (E : Nat) (hE : wordV s.data.toList a = E) (W : ByteArray) (hW : s.extract a E = W)
    (n0 : (W.toList == [110, 117, 108, 108]) = false) (n1 : (W.toList == [116, 114, 117, 101]) = false) (n2 : (W.toList == [102, 97, 108, 115, 101]) = false) (x : Int) (hA : Lib.atoiAll W.data.toList = .ok x) (hI : (⟨(Lib.itoa x).toArray⟩ : ByteArray) = W) (hr : refV s.data.toList E = none) :
    Calls Tryz.prog 48 #[.pointer (some ⟨b, 0, none⟩)] w fun e w' => e = .returned (ov (zp 2 false x) none 0 none 0 0) ∧ But b w w' ∧ RC W0 b w' s E l := by
  have ha := h.le
  have hEb := word_le s a ha
  rw [hE] at hEb
  have hlt : b < w.heap.size := h.lt
  have hWs : W.size ≤ 16777216 := by
    rw [← hW]
    have : (s.extract a E).size = (s.extract a E).data.toList.length := Lib.size_eq _
    rw [this, Lib.extract_data, List.length_take]
    omega
  have hbd := atoi_bd hA
  have CA := hide (fun w => atoi_any W x hA hWs w)
  have CI := fun x' (hx : Below W0.heap.size W0 x') => itoa_rc x hbd x' (hg.below hx)
  rw [hI] at CI
  have CI := hide CI
  have HLW := hide h.low
  have CR := hide (fun w' (h' : RAt w' b s E l) => takeRefEnd_any b s E l w' h' hs hEb.2)
  rw [hr] at CR
  have CE := hide (fun k w' (h' : RAt w' b s k l) (hk : k ≤ s.size) => atEnd_any b s k l w' h' hs hk)
  have hs' : (s.size : Int) ≤ 16777216 := by omega
  have H := hide h
  obtain ⟨⟨c0, c1, c2⟩, z0, z1, z2⟩ := h.rat.three
  have HZ : Hid (Below w.heap.size w (w.alloc (.cells zobj 25))) := hide ((Below.refl _ _).alloc (Nat.le_refl _) _)
  have HK : Hid (Blk (w.alloc (.cells zobj 25)) w.heap.size zobj 25) := hide (Blk.new _ _ _)
  have HE := hide hE
  have HEB := hide hEb
  clear h hWs hE hg
  go_enter Tryz.func48, Tryz.ntmps48
  go_wp2_with fail
  go_loopg [13] (s.size - a) (fun g _ wr => ∃ k : Nat, Hid (k ≤ s.size ∧ g = s.size - k ∧ wordV s.data.toList k = E ∧ But b w wr ∧ RAt wr b s k l ∧ Blk wr w.heap.size zobj 25))
  case atStart => exact ⟨a, hide ⟨ha, rfl, HE.out, But.of_below HZ.out, Blk.below H.out.rat HZ.out, HK.out⟩⟩
  case round =>
    obtain ⟨k, HV⟩ := hrel
    obtain ⟨k1, kg, k2, k3, k4, k5⟩ := HV.out
    clear HV c0 c1 c2 z0 z1 z2
    obtain ⟨⟨c0, c1, c2⟩, z0, z1, z2⟩ := k4.three
    have H3 := hide k3
    have H4 := hide k4
    have H5 := hide k5
    have HG := hide kg
    have hk0 : (0 : Int) ≤ (k : Int) := by omega
    have st := word_step s k
    rw [k2] at st
    clear kg k3 k4 k5 k2
    cases he : endV s.data.toList k
    · rw [he, if_neg (by simp)] at st
      have hk2 : k < s.size := by
        rcases Nat.lt_or_ge k s.size with h | h
        · exact h
        · unfold endV at he
          rw [List.drop_eq_nil_of_le (by rw [← Lib.size_eq]; omega)] at he
          cases he
      have ST := hide st
      clear st
      go_wp2_with (go_at_call 74; refine (CE.out k _ H4.out k1).mono ?_; rintro e w2 ⟨rfl, n, rfl⟩; rw [he])
      go_roundg (s.size - (k + 1))
      case measure => have := HG.out; omega
      case rel => exact ⟨k + 1, hide ⟨hk2, rfl, ST.out.symm, (H3.out.drewN _).trans (But.setCell b _ 1 _), (RAt.drewN H4.out _).at1 (k + 1), (Blk.below H5.out (below_drewN' _ _)).other (by omega) 1 _⟩⟩
    · rw [he, if_pos rfl] at st
      subst st
      have ha1 : (a : Int) ≤ (E : Int) := by omega
      have ha2 : (E : Int) ≤ (s.size : Int) := by omega
      have ha0 : (0 : Int) ≤ (a : Int) := by omega
      go_wp2_with (go_at_call 74; refine (CE.out E _ H4.out k1).mono ?_; rintro e w2 ⟨rfl, n, rfl⟩; rw [he])
      clear HE HK HZ
      go_quiet (fail)
      go_wp2_with fail
      refine (CA.out _).mono ?_
      rintro e wa ⟨rfl, hya⟩
      have hyw : Below wr.heap.size wr wa := below_d5 (Below.refl _ _) hya rfl rfl rfl rfl
      have HYA := hide hyw
      have HLA := hide ((H3.out.trans (But.of_below (b := b) hyw)).below H.out.low H.out.hb)
      clear hya hyw
      go_wp2_with (first | (go_at_call 76; refine (CI.out _ HLA.out).mono ?_; rintro e wi ⟨rfl, hyi⟩; have HYI := hide (below_t5 HYA.out hyi); clear hyi))
      have hbw : Below wr.heap.size wr wi := HYI.out
      refine (CR.out _ (Blk.below H4.out hbw)).mono ?_
      rintro e wf ⟨rfl, h1, h2⟩
      have hk5 := (H5.out.below hbw).but h1 (by omega)
      have HBF := hide ((H3.out.trans (But.of_below hbw)).trans h1)
      have HRF := hide h2
      have HKF := hide hk5
      obtain ⟨⟨r0, r1, r2, r3, r4, r5⟩, ⟨y0, y1, y2, y3, y4, y5⟩⟩ := hk5.six
      clear h1 h2 hk5 hbw
      go_wp2_with fail
      refine word_fin (st6_blk HKF.out (.int .i64 2) (.bool false) (.int .i64 x) (.string ⟨#[]⟩) (.slice none 0 0) (.slice none 0 0)) rfl rfl ⟨rfl, st6_but HBF.out (Nat.le_refl _) _ _ _ _ _ _, H.out.but (st6_but HBF.out (Nat.le_refl _) _ _ _ _ _ _) (st6_rat HRF.out (Nat.ne_of_lt hlt) _ _ _ _ _ _) HEB.out.2⟩
set_option maxRecDepth 8000 in
set_option maxHeartbeats 1000000 in
theorem wordg_real (W0 : World) (hg : Glo5 W0) (b : Nat) (s : ByteArray) (a : Nat) (l : Int) (w : World) (h : RC W0 b w s a l) (hs : s.size ≤ 16777216) (E : Nat) (hE : wordV s.data.toList a = E) (W : ByteArray) (hW : s.extract a E = W)
    (n0 : (W.toList == [110, 117, 108, 108]) = false) (n1 : (W.toList == [116, 114, 117, 101]) = false) (n2 : (W.toList == [102, 97, 108, 115, 101]) = false) (hA : ∀ x, Lib.atoiAll W.data.toList ≠ .ok x) (hP : D2.parB W.data.toList = true) :
    Calls Tryz.prog 48 #[.pointer (some ⟨b, 0, none⟩)] w fun e w' => e = .returned (ov (zp 3 false (D2.parV W.data.toList)) none 0 none 0 0) ∧ But b w w' ∧ RC W0 b w' s E l := by
  have ha := h.le
  have hEb := word_le s a ha
  rw [hE] at hEb
  have hlt : b < w.heap.size := h.lt
  have hWs : W.size ≤ 16777216 := by
    rw [← hW]
    have : (s.extract a E).size = (s.extract a E).data.toList.length := Lib.size_eq _
    rw [this, Lib.extract_data, List.length_take]
    omega
  have CA := hide (fun x' (hx : Below W0.heap.size W0 x') => atoi_bad W hA hWs x' (hg.below hx))
  have HLW := hide h.low
  have CD := fun x' (hx : Below W0.heap.size W0 x') => D2.parse_any W x' (hg.below hx).base
  rw [hP] at CD
  have CD := hide CD
  obtain ⟨y, hy⟩ : ∃ y, D2.parV W.data.toList = y := ⟨_, rfl⟩
  rw [hy] at CD
  have HVY := hide hy
  clear hy
  have CMT := hide must_t
  have CE := hide (fun k w' (h' : RAt w' b s k l) (hk : k ≤ s.size) => atEnd_any b s k l w' h' hs hk)
  have hs' : (s.size : Int) ≤ 16777216 := by omega
  have H := hide h
  obtain ⟨⟨c0, c1, c2⟩, z0, z1, z2⟩ := h.rat.three
  have HZ : Hid (Below w.heap.size w (w.alloc (.cells zobj 25))) := hide ((Below.refl _ _).alloc (Nat.le_refl _) _)
  have HK : Hid (Blk (w.alloc (.cells zobj 25)) w.heap.size zobj 25) := hide (Blk.new _ _ _)
  have HE := hide hE
  have HEB := hide hEb
  clear h hWs hE hg
  go_enter Tryz.func48, Tryz.ntmps48
  go_wp2_with fail
  go_loopg [13] (s.size - a) (fun g _ wr => ∃ k : Nat, Hid (k ≤ s.size ∧ g = s.size - k ∧ wordV s.data.toList k = E ∧ But b w wr ∧ RAt wr b s k l ∧ Blk wr w.heap.size zobj 25))
  case atStart => exact ⟨a, hide ⟨ha, rfl, HE.out, But.of_below HZ.out, Blk.below H.out.rat HZ.out, HK.out⟩⟩
  case round =>
    obtain ⟨k, HV⟩ := hrel
    obtain ⟨k1, kg, k2, k3, k4, k5⟩ := HV.out
    clear HV c0 c1 c2 z0 z1 z2
    obtain ⟨⟨c0, c1, c2⟩, z0, z1, z2⟩ := k4.three
    have H3 := hide k3
    have H4 := hide k4
    have H5 := hide k5
    have HG := hide kg
    have hk0 : (0 : Int) ≤ (k : Int) := by omega
    have st := word_step s k
    rw [k2] at st
    clear kg k3 k4 k5 k2
    cases he : endV s.data.toList k
    · rw [he, if_neg (by simp)] at st
      have hk2 : k < s.size := by
        rcases Nat.lt_or_ge k s.size with h | h
        · exact h
        · unfold endV at he
          rw [List.drop_eq_nil_of_le (by rw [← Lib.size_eq]; omega)] at he
          cases he
      have ST := hide st
      clear st
      go_wp2_with (go_at_call 74; refine (CE.out k _ H4.out k1).mono ?_; rintro e w2 ⟨rfl, n, rfl⟩; rw [he])
      go_roundg (s.size - (k + 1))
      case measure => have := HG.out; omega
      case rel => exact ⟨k + 1, hide ⟨hk2, rfl, ST.out.symm, (H3.out.drewN _).trans (But.setCell b _ 1 _), (RAt.drewN H4.out _).at1 (k + 1), (Blk.below H5.out (below_drewN' _ _)).other (by omega) 1 _⟩⟩
    · rw [he, if_pos rfl] at st
      subst st
      have ha1 : (a : Int) ≤ (E : Int) := by omega
      have ha2 : (E : Int) ≤ (s.size : Int) := by omega
      have ha0 : (0 : Int) ≤ (a : Int) := by omega
      go_wp2_with (go_at_call 74; refine (CE.out E _ H4.out k1).mono ?_; rintro e w2 ⟨rfl, n, rfl⟩; rw [he])
      clear HE HK HZ
      go_quiet (fail)
      go_wp2_with fail
      refine (CA.out (wr.drewN (n + nq)) (below_t5 (H3.out.below H.out.low H.out.hb) (below_drewN' _ _))).mono ?_
      rintro e wa ⟨⟨v, tp, p, rfl⟩, hya⟩
      have hyw : Below wr.heap.size wr wa := below_d5 (Below.refl _ _) hya rfl rfl rfl rfl
      have HYI := hide hyw
      have HLI := hide ((H3.out.trans (But.of_below (b := b) hyw)).below H.out.low H.out.hb)
      clear hya hyw
      go_wp2_with (first | (go_at_call 78; refine (CD.out _ HLI.out).mono ?_; rintro e wd ⟨rfl, hyd⟩; have HYD := hide (below_t5 HYI.out hyd); clear hyd) | (go_at_call 40; refine (CMT.out _).mono ?_; rintro e wm ⟨rfl, rfl⟩; obtain ⟨⟨r0, r1, r2, r3, r4, r5⟩, ⟨y0, y1, y2, y3, y4, y5⟩⟩ := (H5.out.below HYD.out).six))
      have HBF := hide (H3.out.trans (But.of_below (b := b) HYD.out))
      have HRF := hide (RAt.below H4.out HYD.out)
      have HKF := hide (H5.out.below HYD.out)
      refine word_fin (st6_blk HKF.out (.int .i64 3) (.bool false) (.int .i64 y) (.string ⟨#[]⟩) (.slice none 0 0) (.slice none 0 0)) rfl rfl ⟨by rw [HVY.out]; rfl, st6_but HBF.out (Nat.le_refl _) _ _ _ _ _ _, H.out.but (st6_but HBF.out (Nat.le_refl _) _ _ _ _ _ _) (st6_rat HRF.out (Nat.ne_of_lt hlt) _ _ _ _ _ _) HEB.out.2⟩
set_option maxRecDepth 8000 in
set_option maxHeartbeats 1000000 in
theorem wordg_bad (W0 : World) (hg : Glo5 W0) (b : Nat) (s : ByteArray) (a : Nat) (l : Int) (w : World) (h : RC W0 b w s a l) (hs : s.size ≤ 16777216) (E : Nat) (hE : wordV s.data.toList a = E) (W : ByteArray) (hW : s.extract a E = W)
    (n0 : (W.toList == [110, 117, 108, 108]) = false) (n1 : (W.toList == [116, 114, 117, 101]) = false) (n2 : (W.toList == [102, 97, 108, 115, 101]) = false) (hA : ∀ x, Lib.atoiAll W.data.toList ≠ .ok x) (hP : D2.parB W.data.toList = false) :
    Calls Tryz.prog 48 #[.pointer (some ⟨b, 0, none⟩)] w fun e w' => e = thrown ∧ But b w w' := by
  have ha := h.le
  have hEb := word_le s a ha
  rw [hE] at hEb
  have hlt : b < w.heap.size := h.lt
  have hWs : W.size ≤ 16777216 := by
    rw [← hW]
    have : (s.extract a E).size = (s.extract a E).data.toList.length := Lib.size_eq _
    rw [this, Lib.extract_data, List.length_take]
    omega
  have CA := hide (fun x' (hx : Below W0.heap.size W0 x') => atoi_bad W hA hWs x' (hg.below hx))
  have HLW := hide h.low
  have CD := fun x' (hx : Below W0.heap.size W0 x') => D2.parse_any W x' (hg.below hx).base
  rw [hP] at CD
  have CD := hide CD
  obtain ⟨y, hy⟩ : ∃ y, D2.parV W.data.toList = y := ⟨_, rfl⟩
  rw [hy] at CD
  have HVY := hide hy
  clear hy
  have CMF := hide must_f
  have CE := hide (fun k w' (h' : RAt w' b s k l) (hk : k ≤ s.size) => atEnd_any b s k l w' h' hs hk)
  have hs' : (s.size : Int) ≤ 16777216 := by omega
  have H := hide h
  obtain ⟨⟨c0, c1, c2⟩, z0, z1, z2⟩ := h.rat.three
  have HZ : Hid (Below w.heap.size w (w.alloc (.cells zobj 25))) := hide ((Below.refl _ _).alloc (Nat.le_refl _) _)
  have HK : Hid (Blk (w.alloc (.cells zobj 25)) w.heap.size zobj 25) := hide (Blk.new _ _ _)
  have HE := hide hE
  have HEB := hide hEb
  clear h hWs hE hg
  go_enter Tryz.func48, Tryz.ntmps48
  go_wp2_with fail
  go_loopg [13] (s.size - a) (fun g _ wr => ∃ k : Nat, Hid (k ≤ s.size ∧ g = s.size - k ∧ wordV s.data.toList k = E ∧ But b w wr ∧ RAt wr b s k l ∧ Blk wr w.heap.size zobj 25))
  case atStart => exact ⟨a, hide ⟨ha, rfl, HE.out, But.of_below HZ.out, Blk.below H.out.rat HZ.out, HK.out⟩⟩
  case round =>
    obtain ⟨k, HV⟩ := hrel
    obtain ⟨k1, kg, k2, k3, k4, k5⟩ := HV.out
    clear HV c0 c1 c2 z0 z1 z2
    obtain ⟨⟨c0, c1, c2⟩, z0, z1, z2⟩ := k4.three
    have H3 := hide k3
    have H4 := hide k4
    have H5 := hide k5
    have HG := hide kg
    have hk0 : (0 : Int) ≤ (k : Int) := by omega
    have st := word_step s k
    rw [k2] at st
    clear kg k3 k4 k5 k2
    cases he : endV s.data.toList k
    · rw [he, if_neg (by simp)] at st
      have hk2 : k < s.size := by
        rcases Nat.lt_or_ge k s.size with h | h
        · exact h
        · unfold endV at he
          rw [List.drop_eq_nil_of_le (by rw [← Lib.size_eq]; omega)] at he
          cases he
      have ST := hide st
      clear st
      go_wp2_with (go_at_call 74; refine (CE.out k _ H4.out k1).mono ?_; rintro e w2 ⟨rfl, n, rfl⟩; rw [he])
      go_roundg (s.size - (k + 1))
      case measure => have := HG.out; omega
      case rel => exact ⟨k + 1, hide ⟨hk2, rfl, ST.out.symm, (H3.out.drewN _).trans (But.setCell b _ 1 _), (RAt.drewN H4.out _).at1 (k + 1), (Blk.below H5.out (below_drewN' _ _)).other (by omega) 1 _⟩⟩
    · rw [he, if_pos rfl] at st
      subst st
      have ha1 : (a : Int) ≤ (E : Int) := by omega
      have ha2 : (E : Int) ≤ (s.size : Int) := by omega
      have ha0 : (0 : Int) ≤ (a : Int) := by omega
      go_wp2_with (go_at_call 74; refine (CE.out E _ H4.out k1).mono ?_; rintro e w2 ⟨rfl, n, rfl⟩; rw [he])
      clear HE HK HZ
      go_quiet (fail)
      go_wp2_with fail
      refine (CA.out (wr.drewN (n + nq)) (below_t5 (H3.out.below H.out.low H.out.hb) (below_drewN' _ _))).mono ?_
      rintro e wa ⟨⟨v, tp, p, rfl⟩, hya⟩
      have hyw : Below wr.heap.size wr wa := below_d5 (Below.refl _ _) hya rfl rfl rfl rfl
      have HYI := hide hyw
      have HLI := hide ((H3.out.trans (But.of_below (b := b) hyw)).below H.out.low H.out.hb)
      clear hya hyw
      go_wp2_with (first | (go_at_call 78; refine (CD.out _ HLI.out).mono ?_; rintro e wd ⟨rfl, hyd⟩; have HYD := hide (below_t5 HYI.out hyd); clear hyd) | (go_at_call 40; refine (CMF.out _).mono ?_; rintro e wm ⟨rfl, rfl⟩))
      exact ⟨rfl, rfl, H3.out.trans (But.of_below HYD.out)⟩
set_option maxRecDepth 8000 in
set_option maxHeartbeats 1000000 in
theorem wordg_real2 (W0 : World) (hg : Glo5 W0) (b : Nat) (s : ByteArray) (a : Nat) (l : Int) (w : World) (h : RC W0 b w s a l) (hs : s.size ≤ 16777216) (E : Nat) (hE : wordV s.data.toList a = E) (W : ByteArray) (hW : s.extract a E = W)
    (n0 : (W.toList == [110, 117, 108, 108]) = false) (n1 : (W.toList == [116, 114, 117, 101]) = false) (n2 : (W.toList == [102, 97, 108, 115, 101]) = false) (x : Int) (hA : Lib.atoiAll W.data.toList = .ok x) (V : ByteArray) (hI : (⟨(Lib.itoa x).toArray⟩ : ByteArray) = V) (hne : (V.toList == W.toList) = false) (hP : D2.parB W.data.toList = true) :
    Calls Tryz.prog 48 #[.pointer (some ⟨b, 0, none⟩)] w fun e w' => e = .returned (ov (zp 3 false (D2.parV W.data.toList)) none 0 none 0 0) ∧ But b w w' ∧ RC W0 b w' s E l := by
  have ha := h.le
  have hEb := word_le s a ha
  rw [hE] at hEb
  have hlt : b < w.heap.size := h.lt
  have hWs : W.size ≤ 16777216 := by
    rw [← hW]
    have : (s.extract a E).size = (s.extract a E).data.toList.length := Lib.size_eq _
    rw [this, Lib.extract_data, List.length_take]
    omega
  have hbd := atoi_bd hA
  have CA := hide (fun w => atoi_any W x hA hWs w)
  have CI := fun x' (hx : Below W0.heap.size W0 x') => itoa_rc x hbd x' (hg.below hx)
  rw [hI] at CI
  have CI := hide CI
  have HLW := hide h.low
  have CD := fun x' (hx : Below W0.heap.size W0 x') => D2.parse_any W x' (hg.below hx).base
  rw [hP] at CD
  have CD := hide CD
  obtain ⟨y, hy⟩ : ∃ y, D2.parV W.data.toList = y := ⟨_, rfl⟩
  rw [hy] at CD
  have HVY := hide hy
  clear hy
  have CMT := hide must_t
  have CE := hide (fun k w' (h' : RAt w' b s k l) (hk : k ≤ s.size) => atEnd_any b s k l w' h' hs hk)
  have hs' : (s.size : Int) ≤ 16777216 := by omega
  have H := hide h
  obtain ⟨⟨c0, c1, c2⟩, z0, z1, z2⟩ := h.rat.three
  have HZ : Hid (Below w.heap.size w (w.alloc (.cells zobj 25))) := hide ((Below.refl _ _).alloc (Nat.le_refl _) _)
  have HK : Hid (Blk (w.alloc (.cells zobj 25)) w.heap.size zobj 25) := hide (Blk.new _ _ _)
  have HE := hide hE
  have HEB := hide hEb
  clear h hWs hE hg
  go_enter Tryz.func48, Tryz.ntmps48
  go_wp2_with fail
  go_loopg [13] (s.size - a) (fun g _ wr => ∃ k : Nat, Hid (k ≤ s.size ∧ g = s.size - k ∧ wordV s.data.toList k = E ∧ But b w wr ∧ RAt wr b s k l ∧ Blk wr w.heap.size zobj 25))
  case atStart => exact ⟨a, hide ⟨ha, rfl, HE.out, But.of_below HZ.out, Blk.below H.out.rat HZ.out, HK.out⟩⟩
  case round =>
    obtain ⟨k, HV⟩ := hrel
    obtain ⟨k1, kg, k2, k3, k4, k5⟩ := HV.out
    clear HV c0 c1 c2 z0 z1 z2
    obtain ⟨⟨c0, c1, c2⟩, z0, z1, z2⟩ := k4.three
    have H3 := hide k3
    have H4 := hide k4
    have H5 := hide k5
    have HG := hide kg
    have hk0 : (0 : Int) ≤ (k : Int) := by omega
    have st := word_step s k
    rw [k2] at st
    clear kg k3 k4 k5 k2
    cases he : endV s.data.toList k
    · rw [he, if_neg (by simp)] at st
      have hk2 : k < s.size := by
        rcases Nat.lt_or_ge k s.size with h | h
        · exact h
        · unfold endV at he
          rw [List.drop_eq_nil_of_le (by rw [← Lib.size_eq]; omega)] at he
          cases he
      have ST := hide st
      clear st
      go_wp2_with (go_at_call 74; refine (CE.out k _ H4.out k1).mono ?_; rintro e w2 ⟨rfl, n, rfl⟩; rw [he])
      go_roundg (s.size - (k + 1))
      case measure => have := HG.out; omega
      case rel => exact ⟨k + 1, hide ⟨hk2, rfl, ST.out.symm, (H3.out.drewN _).trans (But.setCell b _ 1 _), (RAt.drewN H4.out _).at1 (k + 1), (Blk.below H5.out (below_drewN' _ _)).other (by omega) 1 _⟩⟩
    · rw [he, if_pos rfl] at st
      subst st
      have ha1 : (a : Int) ≤ (E : Int) := by omega
      have ha2 : (E : Int) ≤ (s.size : Int) := by omega
      have ha0 : (0 : Int) ≤ (a : Int) := by omega
      go_wp2_with (go_at_call 74; refine (CE.out E _ H4.out k1).mono ?_; rintro e w2 ⟨rfl, n, rfl⟩; rw [he])
      clear HE HK HZ
      go_quiet (fail)
      go_wp2_with fail
      refine (CA.out _).mono ?_
      rintro e wa ⟨rfl, hya⟩
      have hyw : Below wr.heap.size wr wa := below_d5 (Below.refl _ _) hya rfl rfl rfl rfl
      have HYA := hide hyw
      have HLA := hide ((H3.out.trans (But.of_below (b := b) hyw)).below H.out.low H.out.hb)
      clear hya hyw
      go_wp2_with (first | (go_at_call 76; refine (CI.out _ HLA.out).mono ?_; rintro e wi ⟨rfl, hyi⟩; have HYI := hide (below_t5 HYA.out hyi); have HLI := hide (below_t5 HLA.out hyi); clear hyi))
      go_wp2_with (first | (go_at_call 78; refine (CD.out _ HLI.out).mono ?_; rintro e wd ⟨rfl, hyd⟩; have HYD := hide (below_t5 HYI.out hyd); clear hyd) | (go_at_call 40; refine (CMT.out _).mono ?_; rintro e wm ⟨rfl, rfl⟩; obtain ⟨⟨r0, r1, r2, r3, r4, r5⟩, ⟨y0, y1, y2, y3, y4, y5⟩⟩ := (H5.out.below HYD.out).six))
      have HBF := hide (H3.out.trans (But.of_below (b := b) HYD.out))
      have HRF := hide (RAt.below H4.out HYD.out)
      have HKF := hide (H5.out.below HYD.out)
      refine word_fin (st6_blk HKF.out (.int .i64 3) (.bool false) (.int .i64 y) (.string ⟨#[]⟩) (.slice none 0 0) (.slice none 0 0)) rfl rfl ⟨by rw [HVY.out]; rfl, st6_but HBF.out (Nat.le_refl _) _ _ _ _ _ _, H.out.but (st6_but HBF.out (Nat.le_refl _) _ _ _ _ _ _) (st6_rat HRF.out (Nat.ne_of_lt hlt) _ _ _ _ _ _) HEB.out.2⟩
set_option maxRecDepth 8000 in
set_option maxHeartbeats 1000000 in
theorem wordg_bad2 (W0 : World) (hg : Glo5 W0) (b : Nat) (s : ByteArray) (a : Nat) (l : Int) (w : World) (h : RC W0 b w s a l) (hs : s.size ≤ 16777216) (E : Nat) (hE : wordV s.data.toList a = E) (W : ByteArray) (hW : s.extract a E = W)
    (n0 : (W.toList == [110, 117, 108, 108]) = false) (n1 : (W.toList == [116, 114, 117, 101]) = false) (n2 : (W.toList == [102, 97, 108, 115, 101]) = false) (x : Int) (hA : Lib.atoiAll W.data.toList = .ok x) (V : ByteArray) (hI : (⟨(Lib.itoa x).toArray⟩ : ByteArray) = V) (hne : (V.toList == W.toList) = false) (hP : D2.parB W.data.toList = false) :
    Calls Tryz.prog 48 #[.pointer (some ⟨b, 0, none⟩)] w fun e w' => e = thrown ∧ But b w w' := by
  have ha := h.le
  have hEb := word_le s a ha
  rw [hE] at hEb
  have hlt : b < w.heap.size := h.lt
  have hWs : W.size ≤ 16777216 := by
    rw [← hW]
    have : (s.extract a E).size = (s.extract a E).data.toList.length := Lib.size_eq _
    rw [this, Lib.extract_data, List.length_take]
    omega
  have hbd := atoi_bd hA
  have CA := hide (fun w => atoi_any W x hA hWs w)
  have CI := fun x' (hx : Below W0.heap.size W0 x') => itoa_rc x hbd x' (hg.below hx)
  rw [hI] at CI
  have CI := hide CI
  have HLW := hide h.low
  have CD := fun x' (hx : Below W0.heap.size W0 x') => D2.parse_any W x' (hg.below hx).base
  rw [hP] at CD
  have CD := hide CD
  obtain ⟨y, hy⟩ : ∃ y, D2.parV W.data.toList = y := ⟨_, rfl⟩
  rw [hy] at CD
  have HVY := hide hy
  clear hy
  have CMF := hide must_f
  have CE := hide (fun k w' (h' : RAt w' b s k l) (hk : k ≤ s.size) => atEnd_any b s k l w' h' hs hk)
  have hs' : (s.size : Int) ≤ 16777216 := by omega
  have H := hide h
  obtain ⟨⟨c0, c1, c2⟩, z0, z1, z2⟩ := h.rat.three
  have HZ : Hid (Below w.heap.size w (w.alloc (.cells zobj 25))) := hide ((Below.refl _ _).alloc (Nat.le_refl _) _)
  have HK : Hid (Blk (w.alloc (.cells zobj 25)) w.heap.size zobj 25) := hide (Blk.new _ _ _)
  have HE := hide hE
  have HEB := hide hEb
  clear h hWs hE hg
  go_enter Tryz.func48, Tryz.ntmps48
  go_wp2_with fail
  go_loopg [13] (s.size - a) (fun g _ wr => ∃ k : Nat, Hid (k ≤ s.size ∧ g = s.size - k ∧ wordV s.data.toList k = E ∧ But b w wr ∧ RAt wr b s k l ∧ Blk wr w.heap.size zobj 25))
  case atStart => exact ⟨a, hide ⟨ha, rfl, HE.out, But.of_below HZ.out, Blk.below H.out.rat HZ.out, HK.out⟩⟩
  case round =>
    obtain ⟨k, HV⟩ := hrel
    obtain ⟨k1, kg, k2, k3, k4, k5⟩ := HV.out
    clear HV c0 c1 c2 z0 z1 z2
    obtain ⟨⟨c0, c1, c2⟩, z0, z1, z2⟩ := k4.three
    have H3 := hide k3
    have H4 := hide k4
    have H5 := hide k5
    have HG := hide kg
    have hk0 : (0 : Int) ≤ (k : Int) := by omega
    have st := word_step s k
    rw [k2] at st
    clear kg k3 k4 k5 k2
    cases he : endV s.data.toList k
    · rw [he, if_neg (by simp)] at st
      have hk2 : k < s.size := by
        rcases Nat.lt_or_ge k s.size with h | h
        · exact h
        · unfold endV at he
          rw [List.drop_eq_nil_of_le (by rw [← Lib.size_eq]; omega)] at he
          cases he
      have ST := hide st
      clear st
      go_wp2_with (go_at_call 74; refine (CE.out k _ H4.out k1).mono ?_; rintro e w2 ⟨rfl, n, rfl⟩; rw [he])
      go_roundg (s.size - (k + 1))
      case measure => have := HG.out; omega
      case rel => exact ⟨k + 1, hide ⟨hk2, rfl, ST.out.symm, (H3.out.drewN _).trans (But.setCell b _ 1 _), (RAt.drewN H4.out _).at1 (k + 1), (Blk.below H5.out (below_drewN' _ _)).other (by omega) 1 _⟩⟩
    · rw [he, if_pos rfl] at st
      subst st
      have ha1 : (a : Int) ≤ (E : Int) := by omega
      have ha2 : (E : Int) ≤ (s.size : Int) := by omega
      have ha0 : (0 : Int) ≤ (a : Int) := by omega
      go_wp2_with (go_at_call 74; refine (CE.out E _ H4.out k1).mono ?_; rintro e w2 ⟨rfl, n, rfl⟩; rw [he])
      clear HE HK HZ
      go_quiet (fail)
      go_wp2_with fail
      refine (CA.out _).mono ?_
      rintro e wa ⟨rfl, hya⟩
      have hyw : Below wr.heap.size wr wa := below_d5 (Below.refl _ _) hya rfl rfl rfl rfl
      have HYA := hide hyw
      have HLA := hide ((H3.out.trans (But.of_below (b := b) hyw)).below H.out.low H.out.hb)
      clear hya hyw
      go_wp2_with (first | (go_at_call 76; refine (CI.out _ HLA.out).mono ?_; rintro e wi ⟨rfl, hyi⟩; have HYI := hide (below_t5 HYA.out hyi); have HLI := hide (below_t5 HLA.out hyi); clear hyi))
      go_wp2_with (first | (go_at_call 78; refine (CD.out _ HLI.out).mono ?_; rintro e wd ⟨rfl, hyd⟩; have HYD := hide (below_t5 HYI.out hyd); clear hyd) | (go_at_call 40; refine (CMF.out _).mono ?_; rintro e wm ⟨rfl, rfl⟩))
      exact ⟨rfl, rfl, H3.out.trans (But.of_below HYD.out)⟩
theorem word_rc (W0 : World) (hg : Glo5 W0) (b : Nat) (s : ByteArray) (a : Nat) (l : Int) (w : World) (h : RC W0 b w s a l) (hs : s.size ≤ 16777216) :
    Calls Tryz.prog 48 #[.pointer (some ⟨b, 0, none⟩)] w (WdR W0 b w s l (wdV s.data.toList a)) := by
  unfold wdV
  obtain ⟨E, hE⟩ : ∃ E, wordV s.data.toList a = E := ⟨_, rfl⟩
  obtain ⟨W, hW⟩ : ∃ W, s.extract a E = W := ⟨_, rfl⟩
  have hEb := word_le s a h.le
  have hl : (s.data.toList.drop a).take (E - a) = W.data.toList := by
    rw [← hW, Lib.extract_data]
  rw [hE, hl]
  have tl : W.toList = W.data.toList := ByteArray.toList_eq W
  have NT : ∀ L : List UInt8, W.data.toList = L → (W.toList == L) = true := fun L e => by rw [tl, e]; exact beq_self_eq_true L
  have NF : ∀ L : List UInt8, W.data.toList ≠ L → (W.toList == L) = false := fun L e => by rw [tl, beq_eq_false_iff_ne]; exact e
  unfold wdP
  by_cases n0 : W.data.toList = [110, 117, 108, 108]
  · rw [if_pos n0]
    exact wordg_null W0 hg b s a l w h hs E hE W hW (NT _ n0)
  rw [if_neg n0]
  by_cases n1 : W.data.toList = [116, 114, 117, 101]
  · rw [if_pos n1]
    exact wordg_true W0 hg b s a l w h hs E hE W hW (NF _ n0) (NT _ n1)
  rw [if_neg n1]
  by_cases n2 : W.data.toList = [102, 97, 108, 115, 101]
  · rw [if_pos n2]
    exact wordg_false W0 hg b s a l w h hs E hE W hW (NF _ n0) (NF _ n1) (NT _ n2)
  rw [if_neg n2]
  have bad : ∀ R, R = (if D2.parB W.data.toList = true then some (zp 3 false (D2.parV W.data.toList), E) else none) → ((∀ x, Lib.atoiAll W.data.toList ≠ .ok x) ∨ ∃ x, Lib.atoiAll W.data.toList = .ok x ∧ Lib.itoa x ≠ W.data.toList) →
      Calls Tryz.prog 48 #[.pointer (some ⟨b, 0, none⟩)] w (WdR W0 b w s l R) := fun R hR hc => by
    subst hR
    rcases hc with hc | ⟨x, hx, hxn⟩
    · cases hP : D2.parB W.data.toList
      · rw [if_neg (by simp)]
        exact wordg_bad W0 hg b s a l w h hs E hE W hW (NF _ n0) (NF _ n1) (NF _ n2) hc hP
      · rw [if_pos rfl]
        exact wordg_real W0 hg b s a l w h hs E hE W hW (NF _ n0) (NF _ n1) (NF _ n2) hc hP
    · have hne : ((⟨(Lib.itoa x).toArray⟩ : ByteArray).toList == W.toList) = false := by
        rw [ByteArray.toList_eq, tl, beq_eq_false_iff_ne]
        exact hxn
      cases hP : D2.parB W.data.toList
      · rw [if_neg (by simp)]
        exact wordg_bad2 W0 hg b s a l w h hs E hE W hW (NF _ n0) (NF _ n1) (NF _ n2) x hx _ rfl hne hP
      · rw [if_pos rfl]
        exact wordg_real2 W0 hg b s a l w h hs E hE W hW (NF _ n0) (NF _ n1) (NF _ n2) x hx _ rfl hne hP
  cases hA : Lib.atoiAll W.data.toList with
  | ok x =>
    by_cases hI : Lib.itoa x = W.data.toList
    · have hIW : (⟨(Lib.itoa x).toArray⟩ : ByteArray) = W := by rw [hI]
      have e : aiV W.data.toList = some x := by unfold aiV; rw [hA]; simp only; rw [if_pos hI]
      rw [e]
      cases hr : refV s.data.toList E with
      | some e2 => exact wordg_ref W0 hg b s a l w h hs E hE W hW (NF _ n0) (NF _ n1) (NF _ n2) x hA hIW e2 hr
      | none => exact wordg_int W0 hg b s a l w h hs E hE W hW (NF _ n0) (NF _ n1) (NF _ n2) x hA hIW hr
    · have e : aiV W.data.toList = none := by unfold aiV; rw [hA]; simp only; rw [if_neg hI]
      rw [e]
      exact bad _ rfl (Or.inr ⟨x, hA, hI⟩)
  | «syntax» =>
    have e : aiV W.data.toList = none := by unfold aiV; rw [hA]
    rw [e]
    exact bad _ rfl (Or.inl fun x hx => by rw [hA] at hx; cases hx)
  | range =>
    have e : aiV W.data.toList = none := by unfold aiV; rw [hA]
    rw [e]
    exact bad _ rfl (Or.inl fun x hx => by rw [hA] at hx; cases hx)
end Go.Proofs.YtalmcdbdibpgkaaGreatDoor
