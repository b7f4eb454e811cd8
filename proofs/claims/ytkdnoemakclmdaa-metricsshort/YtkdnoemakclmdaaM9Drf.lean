/-
  What named, slices.Max, and the drafts of the four tables answer.
-/
import Derived.Test.YtkdnoemakclmdaaM9Gd
import Derived.Lib.MinMax
import Derived.Deep.RegionWith
namespace Go.Proofs.Ytkdnoemakclmdaa
open Go.RowKit Go.Deep
set_option linter.unusedVariables false

def maxV : List Int → Int
  | [] => 0
  | x :: r => r.foldl max x
theorem maxV_snoc (x : Int) (r : List Int) (z : Int) : maxV ((x :: r) ++ [z]) = max (maxV (x :: r)) z := by
  show List.foldl max x (r ++ [z]) = max (List.foldl max x r) z
  rw [List.foldl_append]
  rfl
theorem oldc {W w1 : World} (hb : Below W.heap.size W w1) : (∀ b o, b < W.heap.size → w1.cell? ⟨b, o, none⟩ = W.cell? ⟨b, o, none⟩) ∧ (∀ b o, b < W.heap.size → w1.frozen? ⟨b, o, none⟩ = W.frozen? ⟨b, o, none⟩) :=
  ⟨fun b o h => hb.cell (p := ⟨b, o, none⟩) h, fun b o h => hb.frozen (p := ⟨b, o, none⟩) h⟩
set_option maxHeartbeats 1000000 in
theorem max_any (a : Option Addr) (zs : List Int) (n c : Nat) (w : World) (hn : zs.length = n) (h0 : 1 ≤ n) (hm : n ≤ 1073741824) (hL : Lst w a zs) :
    Calls Try.prog 23 #[.slice a n c] w fun e w' => e = .returned (.int .i64 (maxV zs)) ∧ w' = w := by
  have hm' : (n : Int) ≤ 1073741824 := by omega
  have h0' : ¬ (n : Int) < 1 := by omega
  have h1' : (0 : Int) < (n : Int) := by omega
  rcases hL with hz | ⟨b, o, rfl, hb, hcell⟩
  · rw [hz] at hn; simp at hn; omega
  have HC := hide hcell
  have HN := hide hn
  obtain ⟨x, r, rfl⟩ : ∃ x r, zs = x :: r := by
    cases zs with
    | nil => simp at hn; omega
    | cons x r => exact ⟨x, r, rfl⟩
  have hc0 := hcell 0 (by simp)
  simp at hc0
  clear hcell hn h0 hm
  go_enter Try.func23, Try.ntmps23
  go_wp2_with fail
  go_loop [3, 4] (fun vm vi => ∃ (k : Nat) (M : Int), vi = .int .i64 k ∧ vm = .int .i64 M ∧ Hid (1 ≤ k ∧ k ≤ n ∧ M = maxV ((x :: r).take k))) (fun _ vi => n - (intOf vi).toNat)
  case atStart => exact ⟨1, x, rfl, rfl, hide ⟨by omega, by omega, by simp [maxV]⟩⟩
  case round =>
    obtain ⟨k, M, rfl, rfl, HV⟩ := hrel
    obtain ⟨hk1, hk, hM⟩ := HV.out
    have hk0 : (0 : Int) ≤ (k : Int) := by omega
    have HM := hide hM
    clear HV hM hc0
    by_cases hlt : k < n
    case neg =>
      have hlt' : ¬ (k : Int) < (n : Int) := by omega
      have E : Hid (M = maxV (x :: r)) := hide (by rw [HM.out, List.take_of_length_le (by have := HN.out; omega)])
      clear HM
      go_wp2_with fail
      go_ret
      exact ⟨by rw [← E.out]; rfl, rfl⟩
    have hlt' : (k : Int) < (n : Int) := by omega
    have hc := HC.out k (by have := HN.out; omega)
    have E : Hid (∀ z, z = (x :: r).getD k 0 → max M z = maxV ((x :: r).take (k + 1))) := hide fun z hz => by
      have hl := HN.out
      rw [HM.out, hz, List.take_succ_eq_append_getElem (by omega)]
      obtain ⟨j, rfl⟩ : ∃ j, k = j + 1 := ⟨k - 1, by omega⟩
      rw [List.take_succ_cons, maxV_snoc]
      rw [List.getD_eq_getElem?_getD, List.getElem?_eq_getElem (by omega)]
      rfl
    have HX : Hid ((x :: r).getD k 0 = (x :: r).getD k 0) := hide rfl
    generalize (x :: r).getD k 0 = z at hc E
    clear HM HX
    go_wp2_with fail
    go_round
    case rel => exact ⟨k + 1, _, by go_num, rfl, hide ⟨by omega, by omega, E.out z rfl⟩⟩
    case measure => simp [intOf]; omega
theorem drf_text {w : World} {g L : Nat} {ys : List UInt8} (h : Blk w g (bcs ys) 5) (hL : ys.length = L) :
    (convert 43 9 (.slice (some ⟨g, 0, none⟩) L L)).run Try.prog w = .ok (.string ⟨ys.toArray⟩) w := by
  subst hL
  refine run_convert_bytes_back (P := Try.prog) w 43 9 5 ⟨g, 0, none⟩ ys.length ys Try.underlying43 Try.underlying5 Try.underlying9 ?_
  intro k hk
  rw [Go.WideShapes.add_plain, Nat.zero_add, h.cell k, bcs_at ys k hk]
  rfl
theorem below_d {V a b x : World} (h : Below V.heap.size V a) (hx : Below b.heap.size b x) (e0 : b.os = a.os) (e1 : b.tape = a.tape) (e2 : b.output = a.output) (e3 : b.heap = a.heap) : Below V.heap.size V x :=
  h.trans ⟨hx.os.trans e0, hx.tape.trans e1, hx.output.trans e2, e3 ▸ hx.size, fun k hk => by rw [hx.block k (by rw [e3]; exact Nat.lt_of_lt_of_le hk h.size), e3]⟩
set_option maxRecDepth 8000 in
set_option maxHeartbeats 1000000 in
theorem named_any (g L : Nat) (ys : List UInt8) (t : ByteArray) (w : World) (hL : ys.length = L) (ht : t.size = 4) (h : Blk w g (bcs ys) 5) :
    Calls Try.prog 13 #[.slice (some ⟨g, 0, none⟩) L L, .string t] w fun e w' => e = .returned (.agg #[.string t, .string ⟨ys.toArray⟩]) ∧ Below w.heap.size w w' := by
  have CC := hide (fun w => clone_any t w (by omega))
  have H := hide h
  have hlt := h.lt
  have KT := hide (fun x (hx : Below w.heap.size w x) => drf_text (h.below hx) hL)
  clear h hL ht
  go_enter Try.func13, Try.ntmps13
  go_wp2_with fail
  have HB := hide ((Below.refl w.heap.size w).alloc (Nat.le_refl _) (.cells #[.string ⟨#[]⟩, .string ⟨#[]⟩] 34))
  have k1 := Blk.new w #[.string ⟨#[]⟩, .string ⟨#[]⟩] 34
  generalize w.alloc (.cells #[.string ⟨#[]⟩, .string ⟨#[]⟩] 34) = V at HB k1 ⊢
  obtain ⟨x, hx⟩ : ∃ x, w.heap.size = x := ⟨_, rfl⟩
  have hxw : w.heap.size ≤ x := by omega
  have HX := hide hxw
  rw [hx] at k1 ⊢
  clear hx hxw hlt H
  have HK := hide k1
  have z0 := k1.cell 0
  have z1 := k1.cell 1
  have y0 := k1.frozen 0
  have y1 := k1.frozen 1
  have xlt := k1.lt
  simp at z0 z1
  clear k1
  have HV := hide (Below.refl V.heap.size V)
  go_region_held3 (fun u => (convert 43 9 (.slice (some ⟨g, 0, none⟩) L L)).run Try.prog u = .ok (.string ⟨ys.toArray⟩) u) (first | exact KT.out _ (below_t5 HB.out HV.out) | exact KT.out _ (below_drewN (below_t5 HB.out HV.out) 1) | exact KT.out _ (((below_t5 HB.out HV.out).setCell HX.out _).setCell HX.out _)) ((go_at_call 22; refine (CC.out _).mono ?_; rintro e w1 ⟨rfl, h1⟩; replace HV := hide (below_d HV.out h1 rfl rfl rfl rfl); have z0' := (HV.out.cell (p := ⟨x, 0, none⟩) xlt).trans z0; have z1' := (HV.out.cell (p := ⟨x, 1, none⟩) xlt).trans z1; have y0' := (HV.out.frozen (p := ⟨x, 0, none⟩) xlt).trans y0; have y1' := (HV.out.frozen (p := ⟨x, 1, none⟩) xlt).trans y1; have xlt' := Nat.lt_of_lt_of_le xlt HV.out.size; clear h1))
  all_goals
    have k2 := Blk.set (Blk.set (HK.out.below HV.out) 0 (.string t)) 1 (.string ⟨ys.toArray⟩)
    simp at k2
    have hb := ((below_t5 HB.out HV.out).setCell (p := ⟨x, 0, none⟩) HX.out (.string t)).setCell (p := ⟨x, 1, none⟩) HX.out (.string ⟨ys.toArray⟩)
    clear z0 z1 y0 y1 z0' z1' y0' y1'
    go_wp2_with fail
    generalize (w1.setCell ⟨x, 0, none⟩ (.string t)).setCell ⟨x, 1, none⟩ (.string ⟨ys.toArray⟩) = Z at k2 hb ⊢
    have q0 := k2.cell 0
    have q1 := k2.cell 1
    simp at q0 q1
    exact bodyPost_ret (v := .agg #[.string t, .string ⟨ys.toArray⟩]) (by simp [results, Try.results13, go_sem, q0, q1]) rfl ⟨rfl, hb⟩
end Go.Proofs.Ytkdnoemakclmdaa
