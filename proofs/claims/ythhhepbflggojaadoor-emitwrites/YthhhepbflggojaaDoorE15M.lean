/-
  What the law's Large, text, wakes answer.
-/
import Derived.Test.YthhhepbflggojaaDoorE15I
import Derived.Test.YthhhepbflggojaaDoorE15Opn
import Derived.Test.YthhhepbflggojaaDoorE15Sr
namespace Go.Proofs.YthhhepbflggojaaDoor.E15
open Go.RowKit Go.Deep
set_option linter.unusedVariables false
set_option linter.unusedSimpArgs false
set_option maxRecDepth 8000

/- how many marks and glyphs -/
def tot (ms : List Mk) : Nat := (ms.map fun m => 1 + m.gs.length).sum
theorem tot_take (ms : List Mk) (k : Nat) (h : k < ms.length) : tot (ms.take (k + 1)) = tot (ms.take k) + (1 + (ms.getD k m0).gs.length) := by
  have htk : ms.take (k + 1) = ms.take k ++ [ms.getD k m0] := by
    rw [List.take_add_one, List.getD_eq_getElem?_getD, List.getElem?_eq_getElem h]; rfl
  unfold tot
  rw [htk, List.map_append, List.sum_append]
  simp
theorem tot_mem : ∀ (ms : List Mk), ∀ m ∈ ms, m.gs.length ≤ tot ms
  | [], m, h => by simp at h
  | x :: r, m, h => by
    unfold tot
    rw [List.map_cons, List.sum_cons]
    rcases List.mem_cons.1 h with rfl | h
    · omega
    · have := tot_mem r m h
      unfold tot at this
      omega
theorem tot_len : ∀ (ms : List Mk), ms.length ≤ tot ms
  | [] => by simp
  | x :: r => by
    have := tot_len r
    unfold tot at *
    rw [List.map_cons, List.sum_cons, List.length_cons]
    omega
def LgR (ms : List Mk) (n : Nat) (w : World) (e : Ending) (w' : World) : Prop := ∃ b, e = .returned (.bool b) ∧ (b = false → n ≤ 20000 ∧ tot ms ≤ 40000) ∧ w' = w
set_option maxHeartbeats 4000000 in
theorem large_any (a : Option Addr) (n c : Nat) (ms : List Mk) (w : World) (hT : MsIn w a n ms) :
    Calls Tryd.prog 6 #[.slice a n c] w (LgR ms n w) := by
  have HT := hide hT
  have h5 : (n : Int) ≤ 9223372036854775807 := by have := hT.most; omega
  clear hT
  go_enter Tryd.func6, Tryd.ntmps6
  go_wp2_with fail
  go_loopw [3, 4] (fun vn vi wr => ∃ (k N : Nat), vi = .int .i64 k ∧ vn = .int .i64 (N : Int) ∧ wr = w ∧ Hid (k ≤ n ∧ N = tot (ms.take k) ∧ N ≤ 17592186144416)) (fun _ vi _ => n - (intOf vi).toNat)
  case atStart => exact ⟨0, 0, rfl, rfl, rfl, hide ⟨by omega, rfl, by omega⟩⟩
  case round =>
    obtain ⟨k, N, rfl, rfl, hw, HV⟩ := hrel
    subst hw
    obtain ⟨hk, hN, hN2⟩ := HV.out
    have hk0 : (0 : Int) ≤ (k : Int) := by omega
    have hN0 : (0 : Int) ≤ (N : Int) := by omega
    have hN3 : (N : Int) ≤ 17592186144416 := by omega
    have HNN := hide hN
    clear HV hN
    by_cases hlt : k < n
    · have hlt' : (k : Int) < (n : Int) := by omega
      by_cases hM : N ≤ 40000
      · have hM' : (N : Int) ≤ 40000 := by omega
        have hM'' : decide ((N : Int) ≤ 40000) = true := decide_eq_true hM'
        have hl := HT.out.len
        obtain ⟨b, off, rfl, hbl, ga, gc, hA⟩ := HT.out.lst.some (show k < ms.length by omega)
        have z1 := (HT.out.rng _ (gd_mem (show k < ms.length by omega))).len
        have st := tot_take ms k (by omega)
        have c5 := hA.c5
        clear hA
        obtain ⟨x, hx⟩ : ∃ x, (ms.getD k m0).gs.length = x := ⟨_, rfl⟩
        rw [hx] at c5 z1 st
        have z1' : (x : Int) ≤ 17592186044416 := by omega
        have x0 : (0 : Int) ≤ (x : Int) := by omega
        have ST := hide st
        clear hl hx z1 st
        go_wp2_with fail
        go_roundw
        case rel => exact ⟨k + 1, N + (1 + x), by go_num, by go_num, by first | rfl | trivial, hide ⟨by omega, by rw [ST.out, HNN.out], by omega⟩⟩
        case measure => simp [intOf]; omega
      · have hM' : ¬ (N : Int) ≤ 40000 := by omega
        have hM2 : (40000 : Int) < (N : Int) := by omega
        go_wp2_with fail
        go_ret
        exact ⟨true, rfl, (fun h => by cases h), rfl⟩
    · have hlt' : ¬ (k : Int) < (n : Int) := by omega
      have eT : N = tot ms := by rw [HNN.out, List.take_of_length_le (by have := HT.out.len; omega)]
      have ET := hide eT
      clear eT HNN
      by_cases hM : 40000 < N
      · have hM' : (40000 : Int) < (N : Int) := by omega
        go_wp2_with fail
        go_ret
        exact ⟨true, rfl, (fun h => by cases h), rfl⟩
      · have hM' : ¬ (40000 : Int) < (N : Int) := by omega
        by_cases h6 : 20000 < n
        · have h6' : (20000 : Int) < (n : Int) := by omega
          go_wp2_with fail
          go_ret
          exact ⟨true, rfl, (fun h => by cases h), rfl⟩
        · have h6' : ¬ (20000 : Int) < (n : Int) := by omega
          go_wp2_with fail
          go_ret
          exact ⟨false, rfl, fun _ => ⟨by omega, by have := ET.out; omega⟩, rfl⟩
/- the law's text -/
abbrev tM : Mk := ⟨1, 0, 786432, 4718592, 47218688, [1, 255], 0, 0, 0, 0⟩
abbrev eM : Mk := ⟨4, 0, 0, 0, 0, [], 0, 0, 0, 0⟩
theorem text_any (w : World) : Calls Tryd.prog 15 #[] w fun e w' => ∃ g, e = .returned (.agg (mcs tM (.slice (some ⟨g, 0, none⟩) 2 2))) ∧ Lst w' (some ⟨g, 0, none⟩) [1, 255] ∧ Below w.heap.size w w' := by
  go_enter Tryd.func15, Tryd.ntmps15
  go_wp2_with fail
  have k := Blk.new (w.alloc (.cells (mcs tM (.slice (some ⟨w.heap.size + 1, 0, none⟩) 2 2)) 38)) #[.int .i64 1, .int .i64 255] 3
  rw [show (w.alloc (.cells (mcs tM (.slice (some ⟨w.heap.size + 1, 0, none⟩) 2 2)) 38)).heap.size = w.heap.size + 1 by simp] at k
  refine bodyPost_ret (v := .agg (mcs tM (.slice (some ⟨w.heap.size + 1, 0, none⟩) 2 2))) (by simp [results, Tryd.results15, go_sem]) rfl ⟨_, rfl, Or.inr ⟨_, 0, rfl, k.lt, fun i hi => ?_⟩, ((Below.refl _ _).alloc (Nat.le_refl _) _).alloc (by simp) _⟩
  match i, hi with
  | 0, _ => exact k.cell 0
  | 1, _ => exact k.cell 1
theorem dd (n : Nat) (h : n < 1000) : Lib.decDigits n = D2.decF 2 n := (D2.decF_eq 2 n (by omega)).symm
theorem numT_12 : numT 786432 = [49, 50] := by
  unfold numT D2.textL
  rw [if_pos (by decide), show ((786432 : Int).natAbs / 65536) = 12 from rfl, dd 12 (by omega)]
  decide
theorem numT_72 : numT 4718592 = [55, 50] := by
  unfold numT D2.textL
  rw [if_pos (by decide), show ((4718592 : Int).natAbs / 65536) = 72 from rfl, dd 72 (by omega)]
  decide
theorem numT_720 : numT 47218688 = [55, 50, 48, 46, 53] := by
  unfold numT D2.textL
  rw [if_pos (by decide), show ((47218688 : Int).natAbs / 65536) = 720 from rfl, dd 720 (by omega)]
  decide
theorem tM_text : emT [tM] = [66, 84, 10, 47, 70, 48, 32, 49, 50, 32, 84, 102, 10, 49, 32, 48, 32, 48, 32, 49, 32, 55, 50, 32, 55, 50, 48, 46, 53, 32, 84, 109, 10, 60, 48, 48, 48, 49, 48, 48, 102, 102, 62, 32, 84, 106, 10, 69, 84, 10] := by
  unfold emT mkT showT fontT tmT tjT
  rw [List.flatMap_cons, List.flatMap_nil, List.append_nil, if_pos rfl]
  simp only
  rw [numT_12, numT_72, numT_720, show (0 : Int).toNat = 0 from rfl, dd 0 (by omega)]
  decide
theorem tM_may : chkB [tM] = true := by decide
theorem tM_E : emE [tM] = 0 := by unfold emE; rw [tM_may, tM_text]; decide
theorem tM_L : emL [tM] = [66, 84, 10, 47, 70, 48, 32, 49, 50, 32, 84, 102, 10, 49, 32, 48, 32, 48, 32, 49, 32, 55, 50, 32, 55, 50, 48, 46, 53, 32, 84, 109, 10, 60, 48, 48, 48, 49, 48, 48, 102, 102, 62, 32, 84, 106, 10, 69, 84, 10] := by
  unfold emL
  rw [if_pos tM_E, tM_text]
theorem eM_V : chkV [eM] = 150 := by decide
theorem one_lies (w : World) (m : Mk) (ga : Option Addr) (gc b : Nat) (h : Blk w b (mcs m (.slice ga m.gs.length gc)) 38) (hl : Lst w ga m.gs) : MLst w (some ⟨b, 0, none⟩) [m] := by
  refine Or.inr ⟨b, 0, rfl, h.lt, fun i hi => ?_⟩
  obtain rfl : i = 0 := by simp at hi; omega
  exact ⟨ga, gc, ⟨h.cell 0, h.cell 1, h.cell 2, h.cell 3, h.cell 4, h.cell 5, h.cell 6, h.cell 7, h.cell 8, h.cell 9, hl⟩⟩
set_option maxHeartbeats 4000000 in
theorem wakes_any (w : World) (hg : D2.Glo w) : Calls Tryd.prog 7 #[] w fun e w' => e = .returned (.bool true) ∧ Below w.heap.size w w' := by
  have CT := hide (text_any w)
  obtain ⟨TX, hTX⟩ : ∃ TX : ByteArray, ⟨(emL [tM]).toArray⟩ = TX := ⟨_, rfl⟩
  have hq : (TX.toList == [66, 84, 10, 47, 70, 48, 32, 49, 50, 32, 84, 102, 10, 49, 32, 48, 32, 48, 32, 49, 32, 55, 50, 32, 55, 50, 48, 46, 53, 32, 84, 109, 10, 60, 48, 48, 48, 49, 48, 48, 102, 102, 62, 32, 84, 106, 10, 69, 84, 10]) = true := by
    rw [← hTX, tM_L, ByteArray.toList_eq]; simp
  have CE := hide (fun (b g : Nat) (u : World) (hk : Blk u b (mcs tM (.slice (some ⟨g, 0, none⟩) 2 2)) 38) (hl : Lst u (some ⟨g, 0, none⟩) [1, 255]) (hu : Below w.heap.size w u) => by
    have := emit_any (some ⟨b, 0, none⟩) 1 1 [tM] u rfl (by omega) (by simp) (one_lies u tM _ 2 b hk hl) (hg.below hu)
    unfold EmR at this
    rw [tM_E, hTX] at this
    exact this)
  have CC := hide (fun (b : Nat) (u : World) (hk : Blk u b (mcs eM (.slice none 0 0)) 38) => by
    have := check_any (some ⟨b, 0, none⟩) 1 1 [eM] u rfl (by omega) (by simp) (one_lies u eM none 0 b hk (Or.inl rfl))
    rw [eM_V] at this
    exact this)
  clear hTX hg
  go_enter Tryd.func7, Tryd.ntmps7
  go_wp2_with fail
  refine CT.out.mono ?_
  rintro e w1 ⟨g, rfl, hl, h1⟩
  have ha := (Below.refl w1.heap.size w1).alloc (Nat.le_refl _) (.cells (mcs tM (.slice (some ⟨g, 0, none⟩) 2 2)) 38)
  have CE2 := hide (CE.out w1.heap.size g _ (Blk.new w1 (mcs tM (.slice (some ⟨g, 0, none⟩) 2 2)) 38) (hl.below ha) (below_t5 h1 ha))
  have HB1 := hide (below_t5 h1 ha)
  clear hl h1 ha CE
  go_wp2_with fail
  refine CE2.out.mono ?_
  rintro e w2 ⟨rfl, h2⟩
  have HB2 := hide (below_t5 HB1.out h2)
  have ha := (Below.refl w2.heap.size w2).alloc (Nat.le_refl _) (.cells (mcs eM (.slice none 0 0)) 38)
  have CC2 := hide (CC.out w2.heap.size _ (Blk.new w2 (mcs eM (.slice none 0 0)) 38))
  have HB3 := hide (below_t5 HB2.out ha)
  clear h2 ha CC CE2
  go_wp2_with fail
  refine CC2.out.mono ?_
  rintro e w3 ⟨rfl, h3⟩
  have HB4 := hide (below_t5 HB3.out h3)
  clear h3
  go_wp2_with fail
  go_ret
  exact ⟨rfl, HB4.out⟩
end Go.Proofs.YthhhepbflggojaaDoor.E15
