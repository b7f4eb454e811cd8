/-
  What cmap.Build answers, wide; what the law's wakes answers.
-/
import Derived.Test.YthgpchjkeidilaaC11Fi
import Derived.Test.YthgpchjkeidilaaC11Wt
import Derived.Test.YthgpchjkeidilaaC11Ro
namespace Go.Proofs.Ythgpchjkeidilaa
open Go.RowKit Go.Deep
set_option linter.unusedVariables false

theorem good_small {cs : List Ch} {n : Int} (h : gooB cs n = true) (hn : n ≤ 4096) : cs.length ≤ 4096 ∧ ∀ i, i < cs.length → (0 ≤ (cs.getD i c0).f ∧ (cs.getD i c0).f ≤ (cs.getD i c0).l ∧ (cs.getD i c0).l ≤ 1114111 ∧ 1 ≤ (cs.getD i c0).g ∧ (cs.getD i c0).g < 4096) := by
  obtain ⟨h1, h2⟩ := gooB_iff.1 h
  refine ⟨h1, fun i hi => ?_⟩
  have := h2 i hi
  unfold okB at this
  rw [Bool.and_eq_true] at this
  obtain ⟨a, b, c, d, e, f, g⟩ := fitB_t.1 this.1
  refine ⟨b, a, c, e, by omega⟩
theorem good_sc {cs : List Ch} (h : gooB cs 4096 = true) : ∀ i, i < cs.length → SC (cs.getD i c0) := fun i hi => by
  obtain ⟨a, b, c, d, e⟩ := (good_small h (by omega)).2 i hi
  unfold SC small
  omega
theorem build_bad (a : Option Addr) (cs : List Ch) (len cap : Nat) (wd : Bool) (w : World) (hl : cs.length = len) (hm : len ≤ 1073741824) (hL : CLst w a cs) (hg : gooB cs 4096 = false) :
    Calls Try.prog 5 #[.slice a len cap, .bool wd] w fun e w' => e = .returned (.tuple #[.string ⟨#[]⟩, .int .i64 110]) ∧ Below w.heap.size w w' := by
  have C := hide (good_any a cs len cap 4096 w hl hm ⟨by omega, by omega⟩ hL)
  rw [hg] at C
  clear hl hm hL hg
  go_enter Try.func5, Try.ntmps5
  go_wp2_with fail
  refine C.out.mono ?_
  rintro e w1 ⟨rfl, h1⟩
  have H1 := hide h1
  clear h1
  go_wp2_with fail
  go_ret2
  exact ⟨rfl, H1.out⟩
theorem build_wide (a : Option Addr) (cs : List Ch) (len cap : Nat) (w : World) (hl : cs.length = len) (hL : CLst w a cs) (hg : gooB cs 4096 = true) :
    Calls Try.prog 5 #[.slice a len cap, .bool true] w fun e w' => e = .returned (.tuple #[.string ⟨(wiT cs).toArray⟩, .int .i64 0]) ∧ Below w.heap.size w w' := by
  have hm := (good_small hg (by omega)).1
  have C := hide (good_any a cs len cap 4096 w hl (by omega) ⟨by omega, by omega⟩ hL)
  rw [hg] at C
  have CW := hide (fun (w1 : World) (h : Below w.heap.size w w1) => wide_any a cs len cap w1 hl (by omega) (good_sc hg) (hL.below h))
  obtain ⟨TT, hTT⟩ : ∃ TT, (⟨(wiT cs).toArray⟩ : ByteArray) = TT := ⟨_, rfl⟩
  rw [hTT]
  have HTT := hide hTT
  clear hl hm hL hg hTT
  go_enter Try.func5, Try.ntmps5
  go_wp2_with fail
  refine C.out.mono ?_
  rintro e w1 ⟨rfl, h1⟩
  have H1 := hide h1
  clear h1
  go_wp2_with fail
  refine (CW.out _ H1.out).mono ?_
  rintro e w2 ⟨v, rfl, hb2, hk2⟩
  have hcv := BRow.text hb2
  have H2 := hide (H1.out.trans (hk2.below.mono H1.out.size))
  clear hb2 hk2
  rw [HTT.out] at hcv
  go_wp2_with fail
  go_ret2
  exact ⟨rfl, H2.out⟩
/- the law's own table -/
def ab : List Ch := [⟨97, 99, 5⟩]
theorem ab_good : gooB ab 4096 = true := by kernel_rfl
theorem ab_red : redV (wiT ab) 8 = some ab := by kernel_rfl
theorem ab_row : rowB (wiT ab) = true := by kernel_rfl
theorem ab_wi : wiI (wiT ab) = some 0 := by kernel_rfl
theorem ab_len : (wiT ab).length = 40 := by kernel_rfl
theorem find_ab (a : Option Addr) (cap : Nat) (c : Int) (w : World) (hc : R64 c) (hL : CLst w a ab) :
    Calls Try.prog 8 #[.slice a 1 cap, .int .i64 c] w fun e w' => e = .returned (.int .i64 (finV ab c)) ∧ Below w.heap.size w w' :=
  find_any a ab 1 cap c w rfl (by omega) hc (fun i hi => by
    match i, hi with
    | 0, _ => exact ⟨⟨by decide, by decide⟩, ⟨by decide, by decide⟩, by decide, by decide⟩) hL
theorem wakes_any (w : World) : Calls Try.prog 4 #[] w fun e w' => e = .returned (.bool true) ∧ Below w.heap.size w w' := by
  have hb0 : Below w.heap.size w (w.alloc (.cells #[.int .i64 97, .int .i64 99, .int .i64 5] 31)) := (Below.refl _ _).alloc (Nat.le_refl _) _
  have hk0 : Blk (w.alloc (.cells #[.int .i64 97, .int .i64 99, .int .i64 5] 31)) w.heap.size #[.int .i64 97, .int .i64 99, .int .i64 5] 31 := Blk.new _ _ _
  have hL : CLst (w.alloc (.cells #[.int .i64 97, .int .i64 99, .int .i64 5] 31)) (some ⟨w.heap.size, 0, none⟩) ab := Or.inr ⟨w.heap.size, 0, rfl, hk0.lt, fun i hi => by
    match i, hi with
    | 0, _ => exact ⟨hk0.cell 0, hk0.cell 1, hk0.cell 2⟩⟩
  have CB := hide (build_wide (some ⟨w.heap.size, 0, none⟩) ab 1 1 _ rfl hL ab_good)
  have hsz : (⟨(wiT ab).toArray⟩ : ByteArray).size = 40 := by rw [← ab_len]; simp [ByteArray.size]
  have hdl : (⟨(wiT ab).toArray⟩ : ByteArray).data.toList = wiT ab := by simp
  have CR := hide (fun w => read_by ⟨(wiT ab).toArray⟩ 8 w (by omega) (by omega) (some ab) (fun w L h => by
    have := walk_wide L ⟨(wiT ab).toArray⟩ 8 0 w (by rw [hsz]; omega) (by omega) h (by rw [hdl]; exact ab_row) (by rw [hdl]; exact ab_wi)
    rw [hdl, ab_red] at this
    exact this))
  have C1 := hide (fun a cap w h => find_ab a cap 98 w ⟨by decide, by decide⟩ h)
  have C2 := hide (fun a cap w h => find_ab a cap 100 w ⟨by decide, by decide⟩ h)
  have f1 : finV ab 98 = 6 := by kernel_rfl
  have f2 : finV ab 100 = 0 := by kernel_rfl
  rw [f1] at C1
  rw [f2] at C2
  generalize (⟨(wiT ab).toArray⟩ : ByteArray) = TT at *
  have H0 := hide hb0
  clear hb0 hk0 hL hsz hdl f1 f2
  go_enter Try.func4, Try.ntmps4
  go_wp2_with fail
  refine CB.out.mono ?_
  rintro e w1 ⟨rfl, h1⟩
  have H1 := hide (H0.out.trans (h1.mono H0.out.size))
  clear h1
  go_wp2_with fail
  refine (CR.out _).mono ?_
  rintro e w2 ⟨v, rfl, hr2, h2⟩
  have H2 := hide (H1.out.trans (h2.mono H1.out.size))
  obtain ⟨a, c, rfl, hl2⟩ := hr2.lst
  have HL2 := hide hl2
  have hln : ab.length = 1 := rfl
  rw [hln]
  clear h2 hr2 hl2
  go_wp2_with fail
  refine (C1.out _ _ _ HL2.out).mono ?_
  rintro e w3 ⟨rfl, h3⟩
  have H3 := hide (H2.out.trans (h3.mono H2.out.size))
  have HL3 := hide (HL2.out.below h3)
  clear h3
  go_wp2_with fail
  refine (C2.out _ _ _ HL3.out).mono ?_
  rintro e w4 ⟨rfl, h4⟩
  have H4 := hide (H3.out.trans (h4.mono H3.out.size))
  clear h4
  go_wp2_with fail
  go_ret
  exact ⟨rfl, H4.out⟩
end Go.Proofs.Ythgpchjkeidilaa
