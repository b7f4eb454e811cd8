/-
  What utf.Decode answers.
-/
import Derived.Test.YtpmdekhjodhdmaaDoorU4Row
import Derived.Test.YtpmdekhjodhdmaaDoorShelf
import Derived.Lib.Strings
namespace Go.Proofs.YtpmdekhjodhdmaaDoor
open Go.RowKit
open Go.Lib hiding intOf

/- what the library's variables hold -/
def Glo (w : World) : Prop := Utf8Tabs (lays197_ren.g 3) (lays197_ren.g 4) w
theorem cell_lt' {w : World} {b o : Nat} {v : Value} (h : w.cell? ⟨b, o, none⟩ = some v) : b < w.heap.size := by
  by_cases hb : b < w.heap.size
  · exact hb
  · unfold World.cell? at h
    rw [Array.getElem?_eq_none (by show w.heap.size ≤ b; omega)] at h
    simp at h
theorem Glo.below {w w' : World} (h : Glo w) (hb : Below w.heap.size w w') : Glo w' := by
  obtain ⟨h1, h2⟩ := h
  refine ⟨fun c hc => ?_, fun i hi => ?_⟩
  · rw [hb.cell (p := ⟨lays197_ren.g 3, c, none⟩) (cell_lt' (h1 c hc))]; exact h1 c hc
  · obtain ⟨a, b⟩ := h2 i hi
    exact ⟨by rw [hb.cell (p := ⟨lays197_ren.g 4, 2 * i, none⟩) (cell_lt' a)]; exact a, by rw [hb.cell (p := ⟨lays197_ren.g 4, 2 * i + 1, none⟩) (cell_lt' b)]; exact b⟩
theorem get_byte! (s : ByteArray) (i : Nat) : s.get! i = s.data.toList.getD i 0 := by
  cases s with
  | mk d =>
    show d[i]! = d.toList.getD i 0
    by_cases h : i < d.size
    · rw [getElem!_pos d i h, List.getD_eq_getElem?_getD, List.getElem?_eq_getElem (by simpa using h)]; simp
    · rw [getElem!_neg d i h, List.getD_eq_getElem?_getD, List.getElem?_eq_none (by simp; omega)]; rfl
theorem decGo (s : ByteArray) (k : Nat) (h : k < s.size) : decodeGo (s.extract k s.size) = dN (s.data.toList.drop k) := by
  have hl : (s.data.toList.drop k).take (s.size - k) = s.data.toList.drop k := List.take_of_length_le (by rw [List.length_drop, ← size_eq]; exact Nat.le_refl _)
  have hx : (s.extract k s.size).data.toList = s.data.toList.drop k := by rw [extract_data, hl]
  have hz : (s.extract k s.size).size = (s.data.toList.drop k).length := by rw [size_eq, hx]
  unfold decodeGo dN
  rw [if_neg (by rw [hz, List.length_drop, ← size_eq]; omega), decode_at, get_byte!, get_byte!, get_byte!, get_byte!, hx, hz]
  rfl
theorem dN_bd (l : List UInt8) (h : l ≠ []) : (dN l).1 ≤ 1114111 ∧ 1 ≤ (dN l).2 ∧ (dN l).2 ≤ l.length := by
  have h0 := (l.getD 0 0).toNat_lt
  have h1 := List.length_pos_iff.2 h
  unfold dN decodeN
  repeat' split
  all_goals (refine ⟨?_, ?_, ?_⟩ <;> (simp only; omega))

set_option maxHeartbeats 1000000 in
theorem decode_core (s : ByteArray) (w : World) (hg : Glo w) (hs : s.size ≤ 65536) (ZS : List Int) (P E : Nat) (hR : rd st8 s.data.toList 0 = (ZS, P, E)) :
    Calls Tryd.prog 21 #[.string s] w fun e w' => ∃ v, e = .returned (.tuple #[v, .int .i64 P, .int .i64 E]) ∧ IRow w' w.heap.size v ZS ∧ Below w.heap.size w w' := by
  have hs' : (s.size : Int) ≤ 65536 := by omega
  have CD := hide (fun (t : ByteArray) (w' : World) (h : Below w.heap.size w w') => Any.utf8_DecodeRuneInString lays197 t w' (hg.below h))
  have HR := hide (show Rd st8 s.data.toList 0 [] (ZS, P, E) by rw [← hR]; exact Rd.start _ _ _)
  have HS := hide hs
  obtain ⟨i0, hi, hz0, hz1, hz2⟩ := info_parts info_int
  have HI := hide hi
  have HI0 := hide hz0
  have HI1 := hide hz1
  have HI2 := hide hz2
  clear hi hz0 hz1 hz2 hg hR hs
  go_enter Tryd.func21, Tryd.ntmps21
  go_wp2_with fail
  go_loopw [5, 6] (fun vl va wr => ∃ (k : Nat) (ys : List Int), va = .int .i64 k ∧ Hid (k ≤ s.size ∧ ys.length ≤ k ∧ IRow wr w.heap.size vl ys ∧ Rd st8 (s.data.toList.drop k) k ys (ZS, P, E) ∧ Below w.heap.size w wr)) (fun _ va _ => s.size - (intOf va).toNat)
  case atStart => exact ⟨0, [], rfl, hide ⟨by omega, by simp, IRow.nil _ _, by rw [List.drop_zero]; exact HR.out, Below.refl _ _⟩⟩
  case round =>
    obtain ⟨k, ys, rfl, HK⟩ := hrel
    obtain ⟨k1, k2, k3, k4, k5⟩ := HK.out
    clear HK HR
    by_cases hlt : k < s.size
    · have hlt' : (k : Int) < (s.size : Int) := by omega
      have hne : s.data.toList.drop k ≠ [] := by
        intro h
        have := congrArg List.length h
        rw [List.length_drop, ← size_eq] at this
        simp at this
        omega
      obtain ⟨b1, b2, b3⟩ := dN_bd _ hne
      rw [List.length_drop, ← size_eq] at b3
      have ca := CD.out (s.extract k s.size) wr k5
      rw [decGo s k hlt] at ca
      have hst : st8 (s.data.toList.drop k) = if dN (s.data.toList.drop k) = (65533, 1) then (0, 0) else dN (s.data.toList.drop k) := by unfold st8; rw [if_neg hne]
      obtain ⟨⟨c, n⟩, hcn⟩ : ∃ p, dN (s.data.toList.drop k) = p := ⟨_, rfl⟩
      rw [hcn] at ca b1 b2 b3 hst
      simp only at ca b1 b2 b3
      have CA := hide ca
      have c1 : (c : Int) ≤ 1114111 := by omega
      have n1 : (n : Int) ≤ 65536 := by have := HS.out; omega
      have n2 : (k : Int) + (n : Int) ≤ 65536 := by have := HS.out; omega
      have hdd : (s.data.toList.drop k).drop n = s.data.toList.drop (k + n) := by rw [List.drop_drop]
      by_cases hbad : c = 65533 ∧ n = 1
      · obtain ⟨rfl, rfl⟩ := hbad
        rw [if_pos rfl] at hst
        have he := k4.bad hne (by rw [hst])
        simp only [Prod.mk.injEq] at he
        obtain ⟨rfl, rfl, rfl⟩ := he
        have K5 := hide k5
        clear ca k2 k3 k4 k5 hst hcn hne b1 b2 b3 hdd
        go_wp2_with (go_at_call 39; refine CA.out.mono ?_; rintro e w1 ⟨rfl, hb1⟩)
        go_ret3
        exact ⟨_, rfl, IRow.nil _ _, K5.out.trans (hb1.mono K5.out.size)⟩
      · rw [if_neg (by simpa using hbad)] at hst
        have hstep := k4.step hne (by rw [hst]; simp; omega)
        rw [hst] at hstep
        simp only at hstep
        rw [hdd] at hstep
        have K2 := hide k2
        have K3 := hide k3
        have K4 := hide hstep
        have K5 := hide k5
        have HB := hide (show 1 ≤ n ∧ k + n ≤ s.size by omega)
        have way : (((c : Int) == 65533) = false) ∨ (((c : Int) == 65533) = true ∧ ((n : Int) == 1) = false) := by
          by_cases hc : c = 65533
          · right; refine ⟨by rw [beq_iff_eq]; omega, ?_⟩; rw [beq_eq_false_iff_ne]; intro h; exact hbad ⟨hc, by omega⟩
          · left; rw [beq_eq_false_iff_ne]; omega
        clear ca k2 k3 k4 k5 hst hcn hne b1 b2 b3 hdd hstep hbad
        rcases way with h | ⟨h, h'⟩
        all_goals
          go_wp2_with (first
            | (go_at_call 39; refine CA.out.mono ?_; rintro e w1 ⟨rfl, hb1⟩)
            | (at_builtin; refine wpList_append_own _ rfl _ _ 40 rfl w.heap.size 3 i0 (.int .i64 0) 1 8 Tryd.underlying40 HI.out HI0.out HI1.out HI2.out rfl (by decide) _ _ _ rfl (World.ownsRow.alloc (own_below K3.out K5.out hb1) _) ⟨w1.heap.size, 0, none⟩ 1 1 [.int .i64 (c : Int)] rfl rfl ?d1 ?d2 ?d3 ?d4 ?d5 ?_))
          case d1 =>
            intro j u hj
            match j, hj with
            | 0, hj => simp at hj; subst hj; simp [Addr.add]
          case d2 => intro u hu; simp at hu; subst hu; rfl
          case d3 => have := K2.out; have := HB.out; have := HS.out; unfold maxLen; omega
          case d4 => have := K2.out; have := HB.out; have := HS.out; omega
          case d5 => simp; have := K5.out.size; have := hb1.size; omega
          intro v2 w2 hown2 hgrow2 _
          have hB1 : Below w.heap.size w w1 := K5.out.trans (hb1.mono K5.out.size)
          have HB2 := hide (show Below w.heap.size w w2 from (hB1.alloc hB1.size _).grown hgrow2 (by simp; have := hB1.size; omega) (fun k hk => ((own_below K3.out K5.out hb1).lt k hk).1))
          have HO2 := hide (show IRow w2 w.heap.size v2 (ys ++ [(c : Int)]) by
            unfold IRow
            rw [List.map_append, List.length_append]
            exact hown2)
          clear hown2 hgrow2
          go_wp2
          go_roundw
          case rel => exact ⟨k + n, ys ++ [(c : Int)], by go_num, hide ⟨HB.out.2, by have := K2.out; have := HB.out; simp; omega, HO2.out, K4.out, HB2.out⟩⟩
          case measure => have := HB.out; simp [intOf]; omega
    · have hlt' : ¬ (k : Int) < (s.size : Int) := by omega
      rw [List.drop_eq_nil_of_le (by rw [← size_eq]; omega)] at k4
      have he := k4.done
      simp only [Prod.mk.injEq] at he
      obtain ⟨rfl, rfl, rfl⟩ := he
      have K3 := hide k3
      have K5 := hide k5
      clear k2 k3 k4 k5
      go_wp2
      go_ret3
      exact ⟨_, rfl, K3.out, K5.out⟩
end Go.Proofs.YtpmdekhjodhdmaaDoor
