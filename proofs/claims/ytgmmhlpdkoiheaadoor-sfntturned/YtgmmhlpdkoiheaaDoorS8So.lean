/-
  What the reference's Sorted answers: tables put in by their tags, each behind those that are not greater.
-/
import Derived.Test.YtgmmhlpdkoiheaaDoorS8Fi
namespace Go.Proofs.YtgmmhlpdkoiheaaDoor
open Go.RowKit Go.Deep
set_option linter.unusedVariables false

def gtT (y x : Tab) : Bool := Op.bytesLess x.1.toList y.1.toList
def insR (x : Tab) : List Tab → List Tab
  | [] => [x]
  | y :: r => if gtT y x = true then y :: insR x r else x :: y :: r
def insV (x : Tab) (l : List Tab) : List Tab := (insR x l.reverse).reverse
def sorV (l : List Tab) : List Tab := l.foldl (fun a x => insV x a) []
theorem insR_len (x : Tab) : ∀ r, (insR x r).length = r.length + 1
  | [] => rfl
  | y :: r => by
    rw [insR]
    split
    · rw [List.length_cons, insR_len x r, List.length_cons]
    · rfl
theorem insV_len (x : Tab) (l : List Tab) : (insV x l).length = l.length + 1 := by unfold insV; rw [List.length_reverse, insR_len, List.length_reverse]
theorem insV_nil (x : Tab) : insV x [] = [x] := rfl
theorem insV_gt (x y : Tab) (l : List Tab) (h : gtT y x = true) : insV x (l ++ [y]) = insV x l ++ [y] := by
  unfold insV
  rw [List.reverse_append, List.reverse_singleton, List.singleton_append, insR, if_pos h, List.reverse_cons]
theorem insV_ng (x y : Tab) (l : List Tab) (h : gtT y x = false) : insV x (l ++ [y]) = l ++ [y] ++ [x] := by
  unfold insV
  rw [List.reverse_append, List.reverse_singleton, List.singleton_append, insR, if_neg (by rw [h]; simp), List.reverse_cons, List.reverse_cons, List.reverse_reverse]
theorem sorV_len : ∀ (l a : List Tab), (l.foldl (fun a x => insV x a) a).length = a.length + l.length
  | [], a => rfl
  | x :: l, a => by rw [List.foldl_cons, sorV_len l, insV_len, List.length_cons]; omega
theorem sorV_take (l : List Tab) (k : Nat) (x : Tab) (h : l[k]? = some x) : sorV (l.take (k + 1)) = insV x (sorV (l.take k)) := by
  have hk := (List.getElem?_eq_some_iff.1 h)
  obtain ⟨hk, he⟩ := hk
  rw [List.take_succ_eq_append_getElem hk, he]
  unfold sorV
  rw [List.foldl_append]; rfl
theorem take_t (l : List Tab) (k : Nat) (x : Tab) (h : l[k]? = some x) : l.take (k + 1) = l.take k ++ [x] := by
  obtain ⟨hk, he⟩ := List.getElem?_eq_some_iff.1 h
  rw [List.take_succ_eq_append_getElem hk, he]
theorem drop_t (l : List Tab) (k : Nat) (x : Tab) (h : l[k]? = some x) : l.drop k = x :: l.drop (k + 1) := by
  obtain ⟨hk, he⟩ := List.getElem?_eq_some_iff.1 h
  rw [List.drop_eq_getElem_cons hk, he]
theorem tcs_app (a b : List Tab) : tcs (a ++ b) = tcs a ++ tcs b := by unfold tcs; simp
theorem TbRow.put {w : World} {B g cap n k : Nat} {A D : List Tab} {z : Tab} (h : TbRow w B (.slice (some ⟨g, 0, none⟩) n cap) (A ++ z :: D)) (hn : (A ++ z :: D).length = n) (hk : A.length = k) (x : Tab) :
    TbRow ((w.setCell ⟨g, k * 2, none⟩ (.string x.1)).setCell ⟨g, k * 2 + 1, none⟩ (.string x.2)) B (.slice (some ⟨g, 0, none⟩) n cap) (A ++ x :: D) := by
  have hn2 : (A ++ x :: D).length = n := by rw [← hn]; simp
  unfold TbRow at *
  rw [hn] at h
  rw [hn2]
  have h1 := (h.stored (k * 2) (.string x.1)).1
  have h2 := (h1.stored (k * 2 + 1) (.string x.2)).1
  have e : ((tcs (A ++ z :: D)).set (k * 2) (.string x.1)).set (k * 2 + 1) (.string x.2) = tcs (A ++ x :: D) := by
    have hl : (tcs A).length = k * 2 := by rw [tcs_len, hk]; try omega
    have ez : ∀ y : Tab, tcs (A ++ y :: D) = tcs A ++ (.string y.1 :: .string y.2 :: tcs D) := fun y => by rw [tcs_app]; rfl
    rw [ez, ez, List.set_append_right _ _ (by omega), List.set_append_right _ _ (by omega), hl, Nat.sub_self, show k * 2 + 1 - k * 2 = 1 by omega]
    rfl
  rw [e] at h2
  exact h2
theorem TbRow.at2 {w : World} {B g cap n : Nat} {l : List Tab} (h : TbRow w B (.slice (some ⟨g, 0, none⟩) n cap) l) (hn : l.length = n) (i : Nat) (x : Tab) (hi : l[i]? = some x) : w.cell? ⟨g, i * 2, none⟩ = some (.string x.1) ∧ w.cell? ⟨g, i * 2 + 1, none⟩ = some (.string x.2) := by
  obtain ⟨g', cap', hv, _, hc⟩ := h.at (by have := (List.getElem?_eq_some_iff.1 hi).1; omega)
  injection hv with h1 h2 h3
  injection h1 with h1
  injection h1 with h1
  subst h1
  exact hc i x hi
theorem TbRow.base {w : World} {B g cap n : Nat} {l : List Tab} (h : TbRow w B (.slice (some ⟨g, 0, none⟩) n cap) l) : B ≤ g ∧ g < w.heap.size := World.ownsRow.lt h g rfl
theorem TbRow.froz {w : World} {B g cap n : Nat} {l : List Tab} (h : TbRow w B (.slice (some ⟨g, 0, none⟩) n cap) l) (hn : l.length = n) (j : Nat) : w.frozen? ⟨g, j, none⟩ = false := by
  unfold TbRow at h
  rw [hn] at h
  exact h.frozenAt j
def SoR (w : World) (l : List Tab) (e : Ending) (w' : World) : Prop := ∃ v, e = .returned v ∧ TbRow w' w.heap.size v (sorV l) ∧ Below w.heap.size w w'
set_option maxRecDepth 8000 in
set_option maxHeartbeats 4000000 in
theorem rsorted_any (a : Option Addr) (l : List Tab) (n c : Nat) (w : World) (hn : l.length = n) (hm : n ≤ 900) (hL : TLst w a l) :
    Calls Tryd.prog 39 #[.slice a n c] w (SoR w l) := by
  have hm' : (n : Int) ≤ 900 := by omega
  have HL := hide hL
  have HN := hide hn
  clear hL hn
  go_enter Tryd.func39, Tryd.ntmps39
  go_wp2_with fail
  go_loopw [3, 4] (fun vo vi wr => ∃ i : Nat, vi = .int .i64 i ∧ Hid (i ≤ n ∧ TbRow wr w.heap.size vo (sorV (l.take i)) ∧ Below w.heap.size w wr)) (fun _ vi _ => n - (intOf vi).toNat)
  case atStart => exact ⟨0, rfl, hide ⟨by omega, TbRow.nil _ _, Below.refl _ _⟩⟩
  case round =>
    obtain ⟨vo, hvo⟩ : ∃ v, v = u3 := ⟨_, rfl⟩
    subst hvo
    obtain ⟨i, rfl, HV⟩ := hrel
    obtain ⟨hi, hT, hb⟩ := HV.out
    have hi0 : (0 : Int) ≤ (i : Int) := by omega
    have HT := hide hT
    have HB := hide hb
    clear HV
    by_cases hlt : i < n
    case neg =>
      have hlt' : ¬ (i : Int) < (n : Int) := by omega
      rw [List.take_of_length_le (by rw [HN.out]; omega)] at hT
      have HTE := hide hT
      clear HT hT hb
      go_wp2_with fail
      go_ret
      exact ⟨_, rfl, HTE.out, HB.out⟩
    have hlt' : (i : Int) < (n : Int) := by omega
    obtain ⟨x, hx⟩ : ∃ x, l[i]? = some x := ⟨_, List.getElem?_eq_getElem (by have := HN.out; omega)⟩
    have HST := hide (sorV_take l i x hx)
    obtain ⟨b, o, rfl, hbl, hcell⟩ : ∃ b o, a = some ⟨b, o, none⟩ ∧ b < w.heap.size ∧ ∀ u, Below w.heap.size w u → u.cell? ⟨b, o + i * 2, none⟩ = some (.string x.1) ∧ u.cell? ⟨b, o + i * 2 + 1, none⟩ = some (.string x.2) := by
      rcases HL.out with hz | ⟨b, o, h1, h2, h3⟩
      · rw [hz] at hx; simp at hx
      · refine ⟨b, o, h1, h2, fun u hu => ?_⟩
        rw [hu.cell (p := ⟨b, o + i * 2, none⟩) h2, hu.cell (p := ⟨b, o + i * 2 + 1, none⟩) h2]
        exact h3 i x hx
    have HC := hide hcell
    obtain ⟨so, hso⟩ : ∃ so, sorV (l.take i) = so := ⟨_, rfl⟩
    have hsl : so.length = i := by rw [← hso]; unfold sorV; rw [sorV_len, List.length_take, HN.out]; simp; omega
    rw [hso] at hT HST
    obtain ⟨va, vc, hvs⟩ := hT.shape
    rw [hsl] at hvs
    subst hvs
    obtain ⟨c0, c1⟩ := hcell wr hb
    obtain ⟨x1, x2⟩ := x
    have hi9 : i ≤ 1000 := by omega
    obtain ⟨g, cap, w9, hrn, hT9, hB9, _⟩ := app_tab2 (x1, x2) hT hb.size (LT := i) ⟨hsl, hi9⟩ _ rfl
    have hnew : b ≠ wr.heap.size := by have := hb.size; omega
    have HRN := hide hrn
    have HT9 := hide hT9
    have HB9 := hide (hb.trans hB9)
    have HSL := hide hsl
    clear hrn hT9 hB9 hT hb HT HB hcell hx hso hsl
    go_wp2_with (at_builtin; refine Lib.wpList_append_run _ rfl _ _ _ _ rfl _ _ rfl rfl _ _ HRN.out ?_)
    go_loopw [5] (fun vk wk => ∃ (k : Nat) (z : Tab), vk = .int .i64 k ∧ Hid (k ≤ i ∧ TbRow wk w.heap.size (.slice (some ⟨g, 0, none⟩) (i + 1) cap) (so.take k ++ z :: so.drop k) ∧ insV (x1, x2) so = insV (x1, x2) (so.take k) ++ so.drop k ∧ Below w.heap.size w wk)) (fun vk _ => (intOf vk).toNat)
    case atStart =>
      refine ⟨i, (x1, x2), rfl, hide ⟨Nat.le_refl _, ?_, ?_, HB9.out⟩⟩
      · rw [List.take_of_length_le (by rw [HSL.out]; omega), List.drop_of_length_le (by rw [HSL.out]; omega)]; exact HT9.out
      · rw [List.take_of_length_le (by rw [HSL.out]; omega), List.drop_of_length_le (by rw [HSL.out]; omega), List.append_nil]
    case round =>
      clear HRN HT9 HB9 c0 c1
      obtain ⟨k, z, rfl, HV⟩ := hrel
      obtain ⟨hk, hT, hI, hb⟩ := HV.out
      have hk0 : (0 : Int) ≤ (k : Int) := by omega
      clear HV
      have HI := hide hI
      have HT := hide hT
      have HB := hide hb
      have hle : (so.take k ++ z :: so.drop k).length = i + 1 := by simp; have := HSL.out; omega
      have hlk : (so.take k).length = k := by rw [List.length_take, HSL.out]; omega
      obtain ⟨c0, c1⟩ := HC.out _ hb
      obtain ⟨hg1, hg2⟩ := hT.base
      have hgb : b ≠ g := by omega
      have hend : insV (x1, x2) (so.take k) = so.take k ++ [(x1, x2)] → Hid (TbRow ((wr.setCell ⟨g, k * 2, none⟩ (.string x1)).setCell ⟨g, k * 2 + 1, none⟩ (.string x2)) w.heap.size (.slice (some ⟨g, 0, none⟩) (i + 1) cap) (sorV (l.take (i + 1))) ∧ Below w.heap.size w ((wr.setCell ⟨g, k * 2, none⟩ (.string x1)).setCell ⟨g, k * 2 + 1, none⟩ (.string x2))) := fun e => hide (by
        refine ⟨?_, (hb.setCell (p := ⟨g, k * 2, none⟩) hg1 _).setCell (p := ⟨g, k * 2 + 1, none⟩) hg1 _⟩
        rw [HST.out, HI.out, e, List.append_assoc]
        exact hT.put hle hlk (x1, x2))
      have hz : (so.take k ++ z :: so.drop k)[k]? = some z := by rw [List.getElem?_append_right (by rw [hlk]; omega), hlk, Nat.sub_self]; rfl
      obtain ⟨q0, q1⟩ := hT.at2 hle k z hz
      have hq : ∀ v, (wr.setCell ⟨g, k * 2, none⟩ v).drew.cell? ⟨g, k * 2 + 1, none⟩ = some (.string z.2) := fun v => by
        show (wr.setCell ⟨g, k * 2, none⟩ v).cell? ⟨g, k * 2 + 1, none⟩ = _
        rw [World.cell?_setCell_other _ _ _ _ (by simp)]
        exact q1
      have hf : ∀ v, (wr.setCell ⟨g, k * 2, none⟩ v).drew.frozen? ⟨g, k * 2 + 1, none⟩ = false := fun v => by
        show (wr.setCell ⟨g, k * 2, none⟩ v).frozen? ⟨g, k * 2 + 1, none⟩ = _
        rw [World.frozen?_setCell]
        exact hT.froz hle (k * 2 + 1)
      have q2 := hq (.string x1)
      have q3 := hf (.string x1)
      have fz0 := hT.froz hle (k * 2)
      have fz1 := hT.froz hle (k * 2 + 1)
      by_cases hk1 : 0 < k
      case neg =>
        have hk1' : ¬ (0 : Int) < (k : Int) := by omega
        have HE := hend (by obtain rfl : k = 0 := by omega
                            rw [List.take_zero]; rfl)
        clear hq hf hz hend hT hI hb HT HB HI hle hlk
        go_wp2_with fail
        go_region
        go_wp2_with fail
        go_roundw
        case rel => exact ⟨i + 1, by go_num, hide ⟨by omega, HE.out.1, HE.out.2.drew⟩⟩
        case measure => simp [intOf]; omega
      obtain ⟨m, rfl⟩ : ∃ m, k = m + 1 := ⟨k - 1, by omega⟩
      obtain ⟨y, hy⟩ : ∃ y, so[m]? = some y := ⟨_, List.getElem?_eq_getElem (by have := HSL.out; omega)⟩
      have htk := take_t so m y hy
      have hdr := drop_t so m y hy
      have hy2 : (so.take (m + 1) ++ z :: so.drop (m + 1))[m]? = some y := by
        rw [List.getElem?_append_left (by rw [hlk]; omega), List.getElem?_take_of_lt (by omega)]; exact hy
      obtain ⟨d0, d1⟩ := hT.at2 hle m y hy2
      have hput := hT.put hle hlk y
      obtain ⟨y1, y2⟩ := y
      have hk1' : (0 : Int) < (m : Int) + 1 := by omega
      have hm0 : (0 : Int) ≤ (m : Int) := by omega
      have hmi : (m : Int) + 1 ≤ (i : Int) := by omega
      cases hgt : gtT (y1, y2) (x1, x2)
      · have HCM := hide (show (!Op.bytesLess y1.toList x1.toList && !(y1.toList == x1.toList)) = false by rw [← Bool.not_or, less_total, Bool.not_not]; exact hgt)
        have HE := hend (by rw [htk]; exact insV_ng _ _ _ hgt)
        clear hq hf hz hend hT hI hb HT HB HI hle hlk hput hgt htk hdr hy hy2
        go_wp2_with fail
        go_region
        rw [HCM.out]
        go_wp2_with fail
        go_roundw
        case rel => exact ⟨i + 1, by go_num, hide ⟨by omega, HE.out.1, HE.out.2.drew⟩⟩
        case measure => simp [intOf]; omega
      · have HCM := hide (show (!Op.bytesLess y1.toList x1.toList && !(y1.toList == x1.toList)) = true by rw [← Bool.not_or, less_total, Bool.not_not]; exact hgt)
        have q4 := hq (.string y1)
        have q5 := hf (.string y1)
        clear q2 q3
        have HE := hide (show TbRow ((wr.setCell ⟨g, (m + 1) * 2, none⟩ (.string y1)).setCell ⟨g, (m + 1) * 2 + 1, none⟩ (.string y2)) w.heap.size (.slice (some ⟨g, 0, none⟩) (i + 1) cap) (so.take m ++ (y1, y2) :: so.drop m) ∧ insV (x1, x2) so = insV (x1, x2) (so.take m) ++ so.drop m ∧ Below w.heap.size w ((wr.setCell ⟨g, (m + 1) * 2, none⟩ (.string y1)).setCell ⟨g, (m + 1) * 2 + 1, none⟩ (.string y2)) by
          refine ⟨?_, ?_, (hb.setCell (p := ⟨g, (m + 1) * 2, none⟩) hg1 _).setCell (p := ⟨g, (m + 1) * 2 + 1, none⟩) hg1 _⟩
          · rw [hdr]
            rw [htk, List.append_assoc] at hput
            exact hput
          · rw [hI, htk, insV_gt _ _ _ hgt, List.append_assoc, hdr]; rfl)
        clear hq hf hz hend hT hI hb HT HB HI hle hlk hput hgt htk hdr hy hy2
        go_wp2_with fail
        go_region
        rw [HCM.out]
        go_wp2_with fail
        go_roundw
        case rel => exact ⟨m, (y1, y2), by go_num, hide ⟨by omega, HE.out.1, HE.out.2.1, HE.out.2.2.drew⟩⟩
        case measure => simp [intOf]
end Go.Proofs.YtgmmhlpdkoiheaaDoor
