/-
  The law's own wakes: it answers true.
-/
import Derived.Test.YtcgoklacjniemaaGreatDoorO5Par
import Derived.Test.YtcgoklacjniemaaGreatDoorO5Hex
namespace Go.Proofs.YtcgoklacjniemaaGreatDoor
open Go.RowKit Go.Deep

theorem BRow.shape {w : World} {B : Nat} {v : Value} {ys : List UInt8} (h : BRow w B v ys) : ∃ a cap, v = .slice a ys.length cap := by
  obtain ⟨_, ⟨h0, h1⟩ | ⟨g, cap, cur, hv, _⟩⟩ := h
  · exact ⟨none, 0, by rw [h0, h1]⟩
  · exact ⟨_, cap, hv⟩
set_option maxRecDepth 8000 in
set_option maxHeartbeats 4000000 in
theorem aobj_name (p : Pay) (n : Nat) (ka : Option Addr) (kc : Nat) (ia : Option Addr) (ic : Nat) (w : World) (hk : p.kind = 4) (ht : p.text.size ≤ 127) :
    Calls Tryz.prog 29 #[.slice none 0 0, ov p ka kc ia n ic] w fun e w' => ∃ v', e = .returned v' ∧ BRow w' w.heap.size v' (nameT p.text.data.toList) ∧ Below w.heap.size w w' := by
  have CN := hide (appendName_any (.slice none 0 0) [] w.heap.size p.text (w.alloc (.cells (obox p ka kc ia n ic) 25)) (BRow.nil _ _) (by simp) (by simp; omega))
  have HB := hide ((Below.refl w.heap.size w).alloc (Nat.le_refl _) (.cells (obox p ka kc ia n ic) 25))
  have e1 : (p.kind == 1) = false := by rw [hk]; rfl
  have e2 : (p.kind == 2) = false := by rw [hk]; rfl
  have e3 : (p.kind == 3) = false := by rw [hk]; rfl
  have e4 : (p.kind == 4) = true := by rw [hk]; rfl
  clear hk ht
  go_enter Tryz.func29, Tryz.ntmps29
  go_wp2_with (go_at_call 41; refine CN.out.mono ?_; rintro e wy ⟨v', rfl, hb, hw⟩)
  go_ret
  exact ⟨_, rfl, hb, HB.out.trans hw⟩
set_option maxRecDepth 8000 in
set_option maxHeartbeats 4000000 in
theorem print_name (p : Pay) (T : BT Pay) (ka : Option Addr) (kc : Nat) (ia : Option Addr) (ic : Nat) (w : World) (hin : OIn w p T ka kc ia ic) (hk : p.kind = 4) (ht : p.text.size ≤ 127) (hg : decide (0 < goodV p T 0 0) = true) (hn : (nameT p.text.data.toList).length ≤ 1000) :
    Calls Tryz.prog 18 #[ov p ka kc ia (flen T) ic] w fun e w' => e = .returned (.tuple #[.string ⟨(nameT p.text.data.toList).toArray⟩, .int .i64 0]) ∧ Below w.heap.size w w' := by
  have HB := hide ((Below.refl w.heap.size w).alloc (Nat.le_refl _) (.cells (obox p ka kc ia (flen T) ic) 25))
  have CG := hide (oGood_any p T ka kc ia ic _ (hin.below HB.out))
  rw [hg] at CG
  have CA := hide (fun w => aobj_name p (flen T) ka kc ia ic w hk ht)
  have HS := hide (six_box w p ka kc ia (flen T) ic 25)
  have hz : w.heap.size < (w.alloc (.cells (obox p ka kc ia (flen T) ic) 25)).heap.size := by simp
  have HN := hide hn
  clear hin hk ht hg hn
  go_enter Tryz.func18, Tryz.ntmps18
  go_wp2_with fail
  refine CG.out.mono ?_
  rintro e w1 ⟨rfl, h1⟩
  have HB1 := hide (below_t5 HB.out h1)
  obtain ⟨s0, s1, s2, s3, s4, s5⟩ := HS.out.below hz h1
  simp only [Nat.zero_add] at s1 s2 s3 s4 s5
  clear h1
  go_wp2_with fail
  refine (CA.out _).mono ?_
  rintro e w2 ⟨v', rfl, hb, hw⟩
  obtain ⟨a, cap, rfl⟩ := hb.shape
  have hcv := BRow.text hb
  have HW := hide (below_t5 HB1.out hw)
  have hn2 : ((nameT p.text.data.toList).length : Int) ≤ 1000 := by have := HN.out; omega
  generalize (nameT p.text.data.toList).length = N at hcv hn2 ⊢
  clear hb hw s0 s1 s2 s3 s4 s5
  go_wp2_with fail
  go_ret2
  exact ⟨rfl, HW.out⟩
abbrev wakS : ByteArray := ⟨#[32, 91, 32, 49, 50, 32, 48, 32, 82, 93]⟩
theorem wak_word (b : Nat) (w : World) (l : Int) (h : RAt w b wakS 3 l) : Calls Tryz.prog 57 #[.pointer (some ⟨b, 0, none⟩)] w fun e w' => e = .returned (ov (refP 12) none 0 none 0 0) ∧ But b w w' ∧ RAt w' b wakS 9 l :=
  word_ref b wakS 3 l w h (by decide) (by decide) 5 (by decide) ⟨#[49, 50]⟩ (by decide) 12 (by decide) (by rw [ByteArray.toList_eq]; decide) (by rw [ByteArray.toList_eq]; decide) (by rw [ByteArray.toList_eq]; decide) (by decide) (by rw [show Lib.decDigits 12 = [49, 50] by simp [Lib.decDigits]]) 9 (by decide)
theorem wak_ref (b : Nat) (w : World) (l deep : Int) (hl : 1 ≤ l) (hl2 : l ≤ 65536) (h : RAt w b wakS 3 l) : Calls Tryz.prog 32 #[.pointer (some ⟨b, 0, none⟩), .int .i64 deep] w fun e w' => e = .returned (ov (refP 12) none 0 none 0 0) ∧ But b w w' ∧ RAt w' b wakS 9 (l - 1) :=
  object_ref b wakS 3 l deep w h (by decide) (by decide) hl hl2 3 (by decide) (by decide) (by decide) (by decide) (by decide) (by decide) 12 (by decide) (by decide) 9 (fun w h => wak_word b w _ h)
theorem wak_obj (b : Nat) (w : World) (h : RAt w b wakS 0 65536) : Calls Tryz.prog 32 #[.pointer (some ⟨b, 0, none⟩), .int .i64 1] w fun e w' => (∃ ia ic, e = .returned (ov arrP none 0 ia 1 ic) ∧ OIn (fresh w.heap.size w') arrP (arrT 12) none 0 ia ic) ∧ But b w w' ∧ RAt w' b wakS 10 (65536 - 1 - 1) :=
  object_arr b wakS 0 65536 1 w h (by decide) (by decide) (by decide) (by decide) 1 (by decide) (by decide) (by decide) 12 10 (fun w h => array_one b wakS 2 (65536 - 1) 1 w h (by decide) (by decide) (by decide) (by decide) 3 (by decide) (by decide) 12 (by decide) 9 (by decide) 9 (by decide) (by decide) (fun w h => wak_ref b w _ _ (by decide) (by decide) h))
theorem wak_parse (w : World) : Calls Tryz.prog 20 #[.string wakS, .int .i64 0] w fun e w' => (∃ ia ic, e = .returned (.tuple #[ov arrP none 0 ia 1 ic, .int .i64 10, .int .i64 0]) ∧ OIn (fresh w.heap.size w') arrP (arrT 12) none 0 ia ic) ∧ Below w.heap.size w w' :=
  parse_arr wakS 0 w (by decide) (by decide) 12 10 (fun b w h => wak_obj b w h)
abbrev wakP : Pay := ⟨4, false, 0, ⟨#[65, 32, 98, 35]⟩, []⟩
theorem wak_in (w : World) : OIn w wakP .nil none 0 none 0 :=
  ⟨⟨⟨by decide, by decide⟩, ⟨by decide, by decide⟩, by decide, by simp⟩, ⟨Or.inl rfl, ⟨by simp, by simp⟩, by omega⟩, ⟨by simp [flen], by simp [flen]⟩, by omega, Or.inl rfl⟩
theorem wak_print (w : World) : Calls Tryz.prog 18 #[.agg #[.int .i64 4, .bool false, .int .i64 0, .string ⟨#[65, 32, 98, 35]⟩, .slice none 0 0, .slice none 0 0]] w fun e w' => e = .returned (.tuple #[.string ⟨#[47, 65, 35, 50, 48, 98, 35, 50, 51]⟩, .int .i64 0]) ∧ Below w.heap.size w w' := by
  have h := print_name wakP .nil none 0 none 0 w (wak_in w) rfl (by decide) (by decide) (by decide)
  have hN : nameT wakP.text.data.toList = [47, 65, 35, 50, 48, 98, 35, 50, 51] := by decide
  rw [hN] at h
  exact h
set_option maxRecDepth 8000 in
set_option maxHeartbeats 4000000 in
theorem wakes_any (w : World) : Calls Tryz.prog 10 #[] w fun e w' => e = .returned (.bool true) ∧ Below w.heap.size w w' := by
  have CP := hide wak_print
  have CR := hide wak_parse
  go_enter Tryz.func10, Tryz.ntmps10
  go_wp2_with fail
  refine (CP.out _).mono ?_
  rintro e w1 ⟨rfl, h1⟩
  have H1 := hide h1
  clear h1
  go_wp2_with fail
  refine (CR.out _).mono ?_
  rintro e w2 ⟨⟨ia, ic, rfl, hin⟩, h2⟩
  have H2 := hide (below_t5 H1.out h2)
  obtain ⟨_, _, ⟨hi1, _⟩, hi2, hi3⟩ := hin
  rcases hi3 with hi3 | ⟨b', off', rfl, hb, hR⟩
  · simp [flen] at hi3
  obtain ⟨⟨ka, kc, ja, jc, h6, _⟩, _⟩ := rows_node.1 hR
  have hb' : b' < w2.heap.size := by rw [fresh, only_size] at hb; exact hb
  have c2 := (h6.sub (fresh_sub _ _)).2.2.1
  have hi1' : 1 ≤ ic := hi1
  clear h2 hi1 hR hb h6
  go_wp2_with fail
  go_ret
  exact ⟨rfl, H2.out.alloc H2.out.size _⟩
end Go.Proofs.YtcgoklacjniemaaGreatDoor
