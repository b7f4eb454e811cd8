/-
  Joined: U4Dec, K17W, K17E, K17L.
-/
import Derived.BigCall
import Derived.Lib.AppendStr
import Derived.Lib.Strings
import Derived.WalkMore
import Derived.Test.YtpmdekhjodhdmaaDoorR04
import Derived.Test.YtpmdekhjodhdmaaDoorR05
import Derived.Test.YtpmdekhjodhdmaaDoorR07
import Derived.Test.YtpmdekhjodhdmaaDoorR09
namespace Go.Proofs.YtpmdekhjodhdmaaDoor
open Go.RowKit
open Go.Lib hiding intOf
def Glo (w : World) : Prop := Utf8Tabs (lays197_ren.g 3) (lays197_ren.g 4) w
theorem cell_lt' {w : World} {b o : Nat} {v : Value} (h : w.cell? ⟨b, o, none⟩ = some v) : b < w.heap.size := by
  by_cases hb : b < w.heap.size
  · exact hb
  · unfold World.cell? at h
    rw [Array.getElem?_eq_none (by show w.heap.size ≤ b; omega)] at h
    simp at h
theorem Glo.below {w w' : World} (h : Glo w) (hb : Below w.heap.size w w') : Glo w' := by
  obtain ⟨h1, h2⟩ := h
  refine ⟨fun c hc => ?_, fun i hi => ?_⟩
  · rw [hb.cell (p := ⟨lays197_ren.g 3, c, none⟩) (cell_lt' (h1 c hc))]; exact h1 c hc
  · obtain ⟨a, b⟩ := h2 i hi
    exact ⟨by rw [hb.cell (p := ⟨lays197_ren.g 4, 2 * i, none⟩) (cell_lt' a)]; exact a, by rw [hb.cell (p := ⟨lays197_ren.g 4, 2 * i + 1, none⟩) (cell_lt' b)]; exact b⟩
theorem get_byte! (s : ByteArray) (i : Nat) : s.get! i = s.data.toList.getD i 0 := by
  cases s with
  | mk d =>
    show d[i]! = d.toList.getD i 0
    by_cases h : i < d.size
    · rw [getElem!_pos d i h, List.getD_eq_getElem?_getD, List.getElem?_eq_getElem (by simpa using h)]; simp
    · rw [getElem!_neg d i h, List.getD_eq_getElem?_getD, List.getElem?_eq_none (by simp; omega)]; rfl
theorem decGo (s : ByteArray) (k : Nat) (h : k < s.size) : decodeGo (s.extract k s.size) = dN (s.data.toList.drop k) := by
  have hl : (s.data.toList.drop k).take (s.size - k) = s.data.toList.drop k := List.take_of_length_le (by rw [List.length_drop, ← size_eq]; exact Nat.le_refl _)
  have hx : (s.extract k s.size).data.toList = s.data.toList.drop k := by rw [extract_data, hl]
  have hz : (s.extract k s.size).size = (s.data.toList.drop k).length := by rw [size_eq, hx]
  unfold decodeGo dN
  rw [if_neg (by rw [hz, List.length_drop, ← size_eq]; omega), decode_at, get_byte!, get_byte!, get_byte!, get_byte!, hx, hz]
  rfl
theorem dN_bd (l : List UInt8) (h : l ≠ []) : (dN l).1 ≤ 1114111 ∧ 1 ≤ (dN l).2 ∧ (dN l).2 ≤ l.length := by
  have h0 := (l.getD 0 0).toNat_lt
  have h1 := List.length_pos_iff.2 h
  unfold dN decodeN
  repeat' split
  all_goals (refine ⟨?_, ?_, ?_⟩ <;> (simp only; omega))
set_option maxHeartbeats 1000000 in
theorem decode_core (s : ByteArray) (w : World) (hg : Glo w) (hs : s.size ≤ 1048576) (ZS : List Int) (P E : Nat) (hR : rd st8 s.data.toList 0 = (ZS, P, E)) :
    Calls Tryd.prog 21 #[.string s] w fun e w' => ∃ v, e = .returned (.tuple #[v, .int .i64 P, .int .i64 E]) ∧ IRow w' w.heap.size v ZS ∧ Below w.heap.size w w' := by
  have hs' : (s.size : Int) ≤ 1048576 := by omega
  have CD := hide (fun (t : ByteArray) (w' : World) (h : Below w.heap.size w w') => Any.utf8_DecodeRuneInString lays197 t w' (hg.below h))
  have HR := hide (show Rd st8 s.data.toList 0 [] (ZS, P, E) by rw [← hR]; exact Rd.start _ _ _)
  have HS := hide hs
  obtain ⟨i0, hi, hz0, hz1, hz2⟩ := info_parts info_int
  have HI := hide hi
  have HI0 := hide hz0
  have HI1 := hide hz1
  have HI2 := hide hz2
  clear hi hz0 hz1 hz2 hg hR hs
  go_enter Tryd.func21, Tryd.ntmps21
  go_wp2_with fail
  go_loopw [5, 6] (fun vl va wr => ∃ (k : Nat) (ys : List Int), va = .int .i64 k ∧ Hid (k ≤ s.size ∧ ys.length ≤ k ∧ IRow wr w.heap.size vl ys ∧ Rd st8 (s.data.toList.drop k) k ys (ZS, P, E) ∧ Below w.heap.size w wr)) (fun _ va _ => s.size - (intOf va).toNat)
  case atStart => exact ⟨0, [], rfl, hide ⟨by omega, by simp, IRow.nil _ _, by rw [List.drop_zero]; exact HR.out, Below.refl _ _⟩⟩
  case round =>
    obtain ⟨k, ys, rfl, HK⟩ := hrel
    obtain ⟨k1, k2, k3, k4, k5⟩ := HK.out
    clear HK HR
    by_cases hlt : k < s.size
    · have hlt' : (k : Int) < (s.size : Int) := by omega
      have hne : s.data.toList.drop k ≠ [] := by
        intro h
        have := congrArg List.length h
        rw [List.length_drop, ← size_eq] at this
        simp at this
        omega
      obtain ⟨b1, b2, b3⟩ := dN_bd _ hne
      rw [List.length_drop, ← size_eq] at b3
      have ca := CD.out (s.extract k s.size) wr k5
      rw [decGo s k hlt] at ca
      have hst : st8 (s.data.toList.drop k) = if dN (s.data.toList.drop k) = (65533, 1) then (0, 0) else dN (s.data.toList.drop k) := by unfold st8; rw [if_neg hne]
      obtain ⟨⟨c, n⟩, hcn⟩ : ∃ p, dN (s.data.toList.drop k) = p := ⟨_, rfl⟩
      rw [hcn] at ca b1 b2 b3 hst
      simp only at ca b1 b2 b3
      have CA := hide ca
      have c1 : (c : Int) ≤ 1114111 := by omega
      have n1 : (n : Int) ≤ 1048576 := by have := HS.out; omega
      have n2 : (k : Int) + (n : Int) ≤ 1048576 := by have := HS.out; omega
      have hdd : (s.data.toList.drop k).drop n = s.data.toList.drop (k + n) := by rw [List.drop_drop]
      by_cases hbad : c = 65533 ∧ n = 1
      · obtain ⟨rfl, rfl⟩ := hbad
        rw [if_pos rfl] at hst
        have he := k4.bad hne (by rw [hst])
        simp only [Prod.mk.injEq] at he
        obtain ⟨rfl, rfl, rfl⟩ := he
        have K5 := hide k5
        clear ca k2 k3 k4 k5 hst hcn hne b1 b2 b3 hdd
        go_wp2_with (go_at_call 39; refine CA.out.mono ?_; rintro e w1 ⟨rfl, hb1⟩)
        go_ret3
        exact ⟨_, rfl, IRow.nil _ _, K5.out.trans (hb1.mono K5.out.size)⟩
      · rw [if_neg (by simpa using hbad)] at hst
        have hstep := k4.step hne (by rw [hst]; simp; omega)
        rw [hst] at hstep
        simp only at hstep
        rw [hdd] at hstep
        have K2 := hide k2
        have K3 := hide k3
        have K4 := hide hstep
        have K5 := hide k5
        have HB := hide (show 1 ≤ n ∧ k + n ≤ s.size by omega)
        have way : (((c : Int) == 65533) = false) ∨ (((c : Int) == 65533) = true ∧ ((n : Int) == 1) = false) := by
          by_cases hc : c = 65533
          · right; refine ⟨by rw [beq_iff_eq]; omega, ?_⟩; rw [beq_eq_false_iff_ne]; intro h; exact hbad ⟨hc, by omega⟩
          · left; rw [beq_eq_false_iff_ne]; omega
        clear ca k2 k3 k4 k5 hst hcn hne b1 b2 b3 hdd hstep hbad
        rcases way with h | ⟨h, h'⟩
        all_goals
          go_wp2_with (first
            | (go_at_call 39; refine CA.out.mono ?_; rintro e w1 ⟨rfl, hb1⟩)
            | (at_builtin; refine wpList_append_own _ rfl _ _ 40 rfl w.heap.size 3 i0 (.int .i64 0) 1 8 Tryd.underlying40 HI.out HI0.out HI1.out HI2.out rfl (by decide) _ _ _ rfl (World.ownsRow.alloc (own_below K3.out K5.out hb1) _) ⟨w1.heap.size, 0, none⟩ 1 1 [.int .i64 (c : Int)] rfl rfl ?d1 ?d2 ?d3 ?d4 ?d5 ?_))
          case d1 =>
            intro j u hj
            match j, hj with
            | 0, hj => simp at hj; subst hj; simp [Addr.add]
          case d2 => intro u hu; simp at hu; subst hu; rfl
          case d3 => have := K2.out; have := HB.out; have := HS.out; unfold maxLen; omega
          case d4 => have := K2.out; have := HB.out; have := HS.out; omega
          case d5 => simp; have := K5.out.size; have := hb1.size; omega
          intro v2 w2 hown2 hgrow2 _
          have hB1 : Below w.heap.size w w1 := K5.out.trans (hb1.mono K5.out.size)
          have HB2 := hide (show Below w.heap.size w w2 from (hB1.alloc hB1.size _).grown hgrow2 (by simp; have := hB1.size; omega) (fun k hk => ((own_below K3.out K5.out hb1).lt k hk).1))
          have HO2 := hide (show IRow w2 w.heap.size v2 (ys ++ [(c : Int)]) by
            unfold IRow
            rw [List.map_append, List.length_append]
            exact hown2)
          clear hown2 hgrow2
          go_wp2
          go_roundw
          case rel => exact ⟨k + n, ys ++ [(c : Int)], by go_num, hide ⟨HB.out.2, by have := K2.out; have := HB.out; simp; omega, HO2.out, K4.out, HB2.out⟩⟩
          case measure => have := HB.out; simp [intOf]; omega
    · have hlt' : ¬ (k : Int) < (s.size : Int) := by omega
      rw [List.drop_eq_nil_of_le (by rw [← size_eq]; omega)] at k4
      have he := k4.done
      simp only [Prod.mk.injEq] at he
      obtain ⟨rfl, rfl, rfl⟩ := he
      have K3 := hide k3
      have K5 := hide k5
      clear k2 k3 k4 k5
      go_wp2
      go_ret3
      exact ⟨_, rfl, K3.out, K5.out⟩
end Go.Proofs.YtpmdekhjodhdmaaDoor
namespace Go.Proofs.YtpmdekhjodhdmaaDoor.K17
open Go.RowKit Go.Proofs.YtpmdekhjodhdmaaDoor
open Go.Lib
set_option linter.unusedVariables false
set_option linter.unusedSimpArgs false
set_option maxRecDepth 8000
theorem heap_lt {w : World} {b : Nat} {o : Obj} (h : w.heap[b]? = some o) : b < w.heap.size := by
  rcases Nat.lt_or_ge b w.heap.size with hl | hl
  · exact hl
  · rw [Array.getElem?_eq_none hl] at h; cases h
theorem ownsRow_kc {w w' : World} {B : Nat} {e : TypeId} {size n : Nat} {v : Value} {xs : List Value} (h : w.ownsRow B e size v n xs) (hk : ∀ (k : Nat) (c : Array Value) (t : TypeId) (f : Nat × Nat), w.heap[k]? = some (Obj.cells c t f) → w'.heap[k]? = w.heap[k]?) : w'.ownsRow B e size v n xs := by
  obtain ⟨h1, h2 | ⟨g, cap, cur, hv, hg, hh, hr⟩⟩ := h
  · exact ⟨h1, Or.inl h2⟩
  · exact ⟨h1, Or.inr ⟨g, cap, cur, hv, hg, by rw [hk g _ _ _ hh]; exact hh, hr⟩⟩
def KC (w w' : World) : Prop := ∀ (k : Nat) (c : Array Value) (t : TypeId) (f : Nat × Nat), w.heap[k]? = some (Obj.cells c t f) → w'.heap[k]? = w.heap[k]?
theorem KC.of_below {w w' : World} (h : Below w.heap.size w w') : KC w w' := fun k c t f hh => h.block k (heap_lt hh)
theorem KC.iterAt {w : World} {k : Nat} {s : ByteArray} {pos : Nat} (hk : w.heap[k]? = some (.stringIter s pos)) (pos' : Nat) : KC w (w.iterAt k s pos') := fun j c t f hh => by
  rw [iterAt_other]
  rintro rfl
  rw [hk] at hh; cases hh
def Bd (w : World) (B b : Nat) (l : List UInt8) : Prop := Lib.IsBuilder 58 5 B b (l.map bcell) w
theorem Bd.kept {w w' : World} {B b : Nat} {l : List UInt8} (h : Bd w B b l) (hk : KC w w') : Bd w' B b l := by
  have : ∀ p, BuilderAt 58 5 B b p (l.map bcell) w → BuilderAt 58 5 B b p (l.map bcell) w' := fun p ⟨h1, v, h2, h3, h4⟩ => ⟨h1, v, by rw [hk _ _ _ _ h2]; exact h2, ownsRow_kc h3 hk, h4⟩
  rcases h with h | h
  · exact Or.inl (this _ h)
  · exact Or.inr (this _ h)
theorem Bd.below {w w' : World} {B b : Nat} {l : List UInt8} (h : Bd w B b l) (hb : Below w.heap.size w w') : Bd w' B b l := h.kept (KC.of_below hb)
theorem Bd.new (w : World) : Bd (w.alloc (.cells #[.pointer none, .slice none 0 0] 58)) w.heap.size w.heap.size [] := Lib.fresh_isBuilder _ _ w
theorem Bd.lt {w : World} {B b : Nat} {l : List UInt8} (h : Bd w B b l) : B ≤ b ∧ b < w.heap.size := by
  rcases h with ⟨h1, v, h2, _⟩ | ⟨h1, v, h2, _⟩ <;> exact ⟨h1, heap_lt h2⟩
structure Wr (B b : Nat) (w w' : World) : Prop where
  below : Below B w w'
  oth : Lib.OthersKept 5 (some b) w w'
theorem Wr.trans {B b : Nat} {u v w : World} (h : Wr B b u v) (k : Wr B b v w) : Wr B b u w := ⟨h.below.trans k.below, h.oth.trans k.oth⟩
theorem Wr.refl (B b : Nat) (w : World) : Wr B b w w := ⟨Below.refl _ _, OthersKept.refl _ _ _⟩
theorem lies_bd : liesAt Tryd.prog Tryd.prog.depth 58 (2 / Tryd.prog.cellsOf 58) 0 58 1 = true := by kernel_rfl
theorem size_bd : (Tryd.prog.info? 58).map (·.size) = some 2 := by kernel_rfl
set_option maxHeartbeats 1000000 in
theorem ccheck_fresh (b : Nat) (w : World) (h0 : w.cell? ⟨b, 0, none⟩ = some (.pointer none)) (hsh : w.shape? b = some (58, 2)) (hfz : w.frozen? ⟨b, 0, none⟩ = false) :
    Calls Tryd.prog 68 #[.pointer (some ⟨b, 0, none⟩)] w fun e w' => e = .returned (.tuple #[]) ∧ w' = w.setCell ⟨b, 0, none⟩ (.pointer (some ⟨b, 0, none⟩)) := by
  obtain ⟨j, hj, hjs⟩ := Option.map_eq_some_iff.1 size_bd
  go_enter Tryd.func68, Tryd.ntmps68
  go_wp2
  rw [Lib.run_to_unsafe w ⟨b, 0, none⟩ Tryd.underlying55 Tryd.underlying111 hj (by rw [hjs]; decide) hsh (Nat.zero_lt_succ 1)]
  simp only [Result.andThen]
  rw [Oper.upon_value]
  go_wp2
  rw [run_callFunc_extern (show Tryd.prog.funcs[81]? = some _ from by rfl) (by kernel_rfl) (by kernel_rfl) (e := Extern.AbiNoEscape.same) (by kernel_rfl) (by kernel_rfl)]
  rw [Lib.run_noEscape]
  simp only [Result.andThen]
  rw [Oper.upon_value]
  go_wp2
  rw [Lib.run_from_unsafe w ⟨b, 0, none⟩ Tryd.underlying111 Tryd.underlying55 hj hsh lies_bd]
  simp only [Result.andThen]
  rw [Oper.upon_value]
  go_wp2
  go_end0
  exact ⟨rfl, rfl⟩
theorem ccheck_used (b : Nat) (w : World) (h0 : w.cell? ⟨b, 0, none⟩ = some (.pointer (some ⟨b, 0, none⟩))) :
    Calls Tryd.prog 68 #[.pointer (some ⟨b, 0, none⟩)] w fun e w' => e = .returned (.tuple #[]) ∧ w' = w := by
  go_enter Tryd.func68, Tryd.ntmps68
  go_wp2
  obtain ⟨j, hj, _⟩ := Option.map_eq_some_iff.1 size_bd
  rw [Lib.run_neq_ptr_same w _ Tryd.underlying55 hj]
  go_wp2
  go_end0
  exact ⟨rfl, rfl⟩
theorem ccheck_any (B b : Nat) (bs : List Value) (w : World) (h : Lib.IsBuilder 58 5 B b bs w) :
    Calls Tryd.prog 68 #[.pointer (some ⟨b, 0, none⟩)] w fun e w' => e = .returned (.tuple #[]) ∧ Lib.BuilderAt 58 5 B b (.pointer (some ⟨b, 0, none⟩)) bs w' ∧ Wr B b w w' := by
  rcases h with h | h
  · refine (ccheck_fresh b w h.cell0 h.shape h.frozen0).mono ?_
    rintro e w' ⟨rfl, rfl⟩
    exact ⟨rfl, h.used _, (Below.refl B w).setCell (p := ⟨b, 0, none⟩) h.1 _, (Lib.OthersKept.refl _ _ w).setCell ⟨b, 0, none⟩ rfl _⟩
  · refine (ccheck_used b w h.cell0).mono ?_
    rintro e w' ⟨rfl, rfl⟩
    exact ⟨rfl, h, Wr.refl _ _ _⟩
theorem kind_row {w : World} {B : Nat} {e : TypeId} {v : Value} {n : Nat} {xs : List Value} (h : w.ownsRow B e 1 v n xs) : ∀ g, v.ownBlock = some g → ∃ c fz, w.heap[g]? = some (.cells c e fz) := by
  intro g hg
  obtain ⟨_, ⟨h0, _⟩ | ⟨g', cap, cur, hv, _, hh, _⟩⟩ := h
  · rw [h0] at hg; simp [Value.ownBlock] at hg
  · rw [hv] at hg
    have : g' = g := by simpa [Value.ownBlock] using hg
    subst this
    exact ⟨_, _, hh⟩
set_option maxHeartbeats 2000000 in
theorem wstr_any (B b : Nat) (l : List UInt8) (s : ByteArray) (w : World) (h : Bd w B b l) (hlen : l.length + s.size ≤ 140737488355328) (hBw : B ≤ w.heap.size) :
    Calls Tryd.prog 49 #[.pointer (some ⟨b, 0, none⟩), .string s] w fun e w' => e = .returned (.tuple #[.int .i64 s.size, .nilIface]) ∧ Bd w' B b (l ++ s.data.toList) ∧ Wr B b w w' := by
  obtain ⟨i0, hi, hz0, hz1, hz2⟩ := info_parts info_u8
  go_enter Tryd.func49, Tryd.ntmps49
  go_wp2_with (go_at_call 68; refine (ccheck_any B b _ _ h).mono ?_)
  rintro e w1 ⟨rfl, h1, hb1⟩
  obtain ⟨hB, v, hbk, hown, hne⟩ := h1
  have c0 : w1.cell? ⟨b, 0, none⟩ = some (.pointer (some ⟨b, 0, none⟩)) := by rw [Lib.cell_of_heap hbk]; rfl
  have c1 : w1.cell? ⟨b, 1, none⟩ = some v := by rw [Lib.cell_of_heap hbk]; rfl
  have hl2 : (l.map bcell).length + s.size ≤ 140737488355328 := by simpa using hlen
  go_wp2_with (at_builtin; refine Lib.wpList_append_own_string _ rfl _ _ 56 9 rfl B 5 i0 Tryd.underlying56 Tryd.underlying9 hi hz0 hz1 hz2 _ _ _ rfl hown s rfl ?c3 ?c4 ?c5 ?_)
  case c3 => unfold maxLen; omega
  case c4 => omega
  case c5 => have := hb1.below.size; omega
  intro v' w2 hown' hgrow _
  have hlt : b < w1.heap.size := heap_lt hbk
  have hb2 : w2.heap[b]? = some (.cells #[.pointer (some ⟨b, 0, none⟩), v] 58 (0, 0)) := by
    rw [hgrow.block b hlt (fun e => hne e.symm)]
    exact hbk
  have d0 : w2.cell? ⟨b, 0, none⟩ = some (.pointer (some ⟨b, 0, none⟩)) := by rw [Lib.cell_of_heap hb2]; rfl
  have d1 : w2.cell? ⟨b, 1, none⟩ = some v := by rw [Lib.cell_of_heap hb2]; rfl
  have f1 : w2.frozen? ⟨b, 1, none⟩ = false := Lib.frozen_of_heap hb2 1
  obtain ⟨ao, n', cap, rfl⟩ : ∃ ao n' cap, v' = .slice ao n' cap := by
    rcases hown'.2 with ⟨hv, _⟩ | ⟨g, cap, cur, hv, _⟩
    · exact ⟨_, _, _, hv⟩
    · exact ⟨_, _, _, hv⟩
  go_wp2
  go_ret2
  refine ⟨rfl, Or.inr ?_, ?_, (hb1.oth.grown hgrow (kind_row hown)).setCell ⟨b, 1, none⟩ rfl _⟩
  · exact Lib.BuilderAt.put (T := 58) (e := 5) hB hb2 (bs' := (l ++ s.data.toList).map bcell) (by rw [List.map_append, List.length_append, show s.data.toList.map bcell = Lib.strCells s from rfl]; simpa [Lib.strCells_length] using hown') (by decide)
  · exact (hb1.below.grown hgrow (by have := hb1.below.size; omega) (fun k hk => (hown.lt k hk).1)).setCell (p := ⟨b, 1, none⟩) hB _
theorem runeCells_e8 (c : Nat) (h : isP (c : Int) = true) : Lib.runeCells (c : Int) = (e8 c).map bcell := by
  have hp := isP_t.1 h
  have bb : ∀ (n : Nat) (x : Int), n < 256 → x = (n : Int) → Value.int .u8 x = bcell (bt n) := by
    intro n x hn hx
    unfold bcell
    rw [bt_nat n hn, hx]
  unfold Lib.runeCells
  by_cases c1 : c < 128
  · rw [Lib.encodeRuneZ_one (by omega) (by omega), u8_1 c1]
    simp only [List.map_cons, List.map_nil]
    rw [bb c _ (by omega) rfl]
  by_cases c2 : c < 2048
  · rw [Lib.encodeRuneZ_two (by omega) (by omega), u8_2 (by omega) c2]
    simp only [List.map_cons, List.map_nil]
    rw [bb (192 + c / 64) _ (by omega) (by omega), bb (128 + c % 64) _ (by omega) (by omega)]
  by_cases c3 : c < 65536
  · rw [Lib.encodeRuneZ_three (by omega), u8_3 (by omega) c3]
    simp only [List.map_cons, List.map_nil]
    rw [bb (224 + c / 4096) _ (by omega) (by omega), bb (128 + c / 64 % 64) _ (by omega) (by omega), bb (128 + c % 64) _ (by omega) (by omega)]
  · rw [Lib.encodeRuneZ_four (by omega) (by omega), u8_4 (by omega)]
    simp only [List.map_cons, List.map_nil]
    rw [bb (240 + c / 262144) _ (by omega) (by omega), bb (128 + c / 4096 % 64) _ (by omega) (by omega), bb (128 + c / 64 % 64) _ (by omega) (by omega), bb (128 + c % 64) _ (by omega) (by omega)]
set_option maxHeartbeats 4000000 in
theorem wrune_any (B b : Nat) (l : List UInt8) (c : Nat) (w : World) (hc : isP (c : Int) = true) (h : Bd w B b l) (hlen : l.length + 4 ≤ 140737488355328) (hBw : B ≤ w.heap.size) :
    Calls Tryd.prog 54 #[.pointer (some ⟨b, 0, none⟩), .int .i32 (c : Int)] w fun e w' => e = .returned (.tuple #[.int .i64 ((e8 c).length : Nat), .nilIface]) ∧ Bd w' B b (l ++ e8 c) ∧ Wr B b w w' := by
  have hp := isP_t.1 hc
  have hk4 := code8.len c
  go_enter Tryd.func54, Tryd.ntmps54
  go_wp2_with (go_at_call 68; refine (ccheck_any B b _ _ h).mono ?_)
  rintro e w1 ⟨rfl, h1, hb1⟩
  obtain ⟨hB, v, hbk, hown, hne⟩ := h1
  rw [List.length_map] at hown
  obtain ⟨ao, cap, rfl⟩ : ∃ ao cap, v = .slice ao l.length cap := by
    rcases hown.2 with ⟨hv, h0⟩ | ⟨g, cap, cur, hv, _⟩
    · exact ⟨none, 0, by rw [hv, h0]⟩
    · exact ⟨_, _, hv⟩
  have c0 : w1.cell? ⟨b, 0, none⟩ = some (.pointer (some ⟨b, 0, none⟩)) := by rw [Lib.cell_of_heap hbk]; rfl
  have c1 : w1.cell? ⟨b, 1, none⟩ = some (.slice ao l.length cap) := by rw [Lib.cell_of_heap hbk]; rfl
  have ca := Any.utf8_AppendRune_plain lays242 (by kernel_rfl) B _ l.length _ (c : Int) (by omega) (by omega) w1 hown hlen (by have := hb1.below.size; omega)
  rw [runeCells_e8 c hc, List.length_map] at ca
  have CA := hide ca
  clear ca
  go_wp2_with (go_at_call 71; refine CA.out.mono ?_)
  rintro e w2 ⟨v', rfl, hown', o, hgrow⟩
  have hlt : b < w1.heap.size := heap_lt hbk
  have hb2 : w2.heap[b]? = some (.cells #[.pointer (some ⟨b, 0, none⟩), .slice ao l.length cap] 58 (0, 0)) := by
    rw [hgrow.block b (by simp; omega) (fun e => hne e.symm), Lib.alloc_old w1 _ b hlt]
    exact hbk
  have d0 : w2.cell? ⟨b, 0, none⟩ = some (.pointer (some ⟨b, 0, none⟩)) := by rw [Lib.cell_of_heap hb2]; rfl
  have d1 : w2.cell? ⟨b, 1, none⟩ = some (.slice ao l.length cap) := by rw [Lib.cell_of_heap hb2]; rfl
  have f1 : w2.frozen? ⟨b, 1, none⟩ = false := Lib.frozen_of_heap hb2 1
  obtain ⟨g, cap', rfl⟩ : ∃ g cap', v' = .slice (some ⟨g, 0, none⟩) (l.length + (e8 c).length) cap' := by
    rcases hown'.2 with ⟨_, h0⟩ | ⟨g, cap', cur, hv, _⟩
    · omega
    · exact ⟨g, cap', hv⟩
  have e0 : ((l.length : Int) + ((e8 c).length : Int) - (l.length : Int)) = ((e8 c).length : Int) := by omega
  generalize hE : (e8 c).length = E at *
  go_wp2
  go_ret2
  refine ⟨?_, Or.inr ?_, ?_, ((hb1.oth.alloc _).grown hgrow (kind_row (World.ownsRow.alloc hown _))).setCell ⟨b, 1, none⟩ rfl _⟩
  · simp [e0, hE]
  · exact Lib.BuilderAt.put (T := 58) (e := 5) hB hb2 (bs' := (l ++ e8 c).map bcell) (by rw [List.map_append, List.length_append, List.length_map, List.length_map, hE]; exact hown') (by decide)
  · exact ((hb1.below.alloc (by have := hb1.below.size; omega) _).grown hgrow (by have := hb1.below.size; simp; omega) (fun k hk => (hown.lt k hk).1)).setCell (p := ⟨b, 1, none⟩) hB _
theorem byteCells_b (l : List UInt8) : Lib.byteCells l = l.map bcell := rfl
theorem bstr_any (B b : Nat) (l : List UInt8) (w : World) (h : Bd w B b l) (hBw : B ≤ w.heap.size) :
    Calls Tryd.prog 29 #[.pointer (some ⟨b, 0, none⟩)] w fun e w' => e = .returned (.string ⟨l.toArray⟩) ∧ Below B w w' :=
  (Any.Builder_String_any_k lays169 Builder_Extra_169 B b l w (by rw [byteCells_b]; exact IsBuilderF.of h) hBw).mono fun e w' h => ⟨h.1, h.2.2.1⟩
theorem beq_l (s : ByteArray) (l : List UInt8) : (s.toList == l) = decide (s.data.toList = l) := by
  rw [ByteArray.toList_eq]; rw [Bool.eq_iff_iff]; simp
theorem cp_any (s : ByteArray) (c : UInt8) (w : World) : Calls Tryd.prog 72 #[.string s, .string ⟨#[c]⟩] w fun e w' => e = .returned (.tuple #[.string ⟨(if s.data.toList.getD 0 0 = c ∧ s.data.toList ≠ [] then s.data.toList.drop 1 else s.data.toList).toArray⟩, .bool (decide (s.data.toList.getD 0 0 = c ∧ s.data.toList ≠ []))]) ∧ w' = w := by
  have h := Any.strings_CutPrefix lays103 s ⟨#[c]⟩ w
  have e2 : Lib.hasPrefix s.data.toList [c] = decide (s.data.toList.getD 0 0 = c ∧ s.data.toList ≠ []) := by
    unfold Lib.hasPrefix
    cases s.data.toList with
    | nil => simp
    | cons b r =>
      by_cases hbc : b = c
      · subst hbc; simp [List.isPrefixOf]
      · have h1 : (c == b) = false := by rw [beq_eq_false_iff_ne]; exact Ne.symm hbc
        simp only [List.isPrefixOf, h1, Bool.false_and]
        rw [decide_eq_false]
        rintro ⟨h, _⟩
        exact hbc h
  have e3 : Lib.trimPrefix s.data.toList [c] = if s.data.toList.getD 0 0 = c ∧ s.data.toList ≠ [] then s.data.toList.drop 1 else s.data.toList := by
    unfold Lib.trimPrefix
    rw [e2]
    simp
  change Calls Tryd.prog _ _ _ (fun e w' => e = .returned (.tuple #[.string ⟨(Lib.trimPrefix s.data.toList [c]).toArray⟩, .bool (Lib.hasPrefix s.data.toList [c])]) ∧ w' = w) at h
  rw [e2, e3] at h
  exact h
theorem mk_l (l : List UInt8) : (⟨l.toArray⟩ : ByteArray).data.toList = l := rfl
theorem size_m (l : List UInt8) : (⟨l.toArray⟩ : ByteArray).size = l.length := by rw [Lib.size_eq]
theorem entity_any (s : ByteArray) (w : World) (hs : s.size ≤ 9223372036854775000) : Calls Tryd.prog 62 #[.string s] w fun e w' => e = .returned (nuR (entW s.data.toList)) ∧ w' = w := by
  have b1 := beq_l s [108, 116]
  have b2 := beq_l s [103, 116]
  have b3 := beq_l s [97, 109, 112]
  have b4 := beq_l s [113, 117, 111, 116]
  have CP := hide (cp_any s 35)
  have hdl : (s.data.toList.drop 1).length ≤ 9223372036854775000 := by rw [List.length_drop, size_l]; omega
  have CN := hide (fun w => numbered_any ⟨(s.data.toList.drop 1).toArray⟩ w (by rw [size_m]; exact hdl))
  obtain ⟨R, hR⟩ : ∃ R, entW s.data.toList = R := ⟨_, rfl⟩
  rw [hR]
  unfold entW at hR
  generalize s.data.toList = l at *
  by_cases h1 : l = [108, 116]
  · rw [decide_eq_true h1] at b1; rw [if_pos h1] at hR; subst hR
    clear h1 CP CN hdl b2 b3 b4
    go_enter Tryd.func62, Tryd.ntmps62
    go_wp2
    go_ret2
    exact ⟨rfl, rfl⟩
  rw [if_neg h1] at hR
  rw [decide_eq_false h1] at b1
  by_cases h2 : l = [103, 116]
  · rw [decide_eq_true h2] at b2; rw [if_pos h2] at hR; subst hR
    clear h1 h2 CP CN hdl b3 b4
    go_enter Tryd.func62, Tryd.ntmps62
    go_wp2
    go_ret2
    exact ⟨rfl, rfl⟩
  rw [if_neg h2] at hR
  rw [decide_eq_false h2] at b2
  by_cases h3 : l = [97, 109, 112]
  · rw [decide_eq_true h3] at b3; rw [if_pos h3] at hR; subst hR
    clear h1 h2 h3 CP CN hdl b4
    go_enter Tryd.func62, Tryd.ntmps62
    go_wp2
    go_ret2
    exact ⟨rfl, rfl⟩
  rw [if_neg h3] at hR
  rw [decide_eq_false h3] at b3
  by_cases h4 : l = [113, 117, 111, 116]
  · rw [decide_eq_true h4] at b4; rw [if_pos h4] at hR; subst hR
    clear h1 h2 h3 h4 CP CN hdl
    go_enter Tryd.func62, Tryd.ntmps62
    go_wp2
    go_ret2
    exact ⟨rfl, rfl⟩
  rw [if_neg h4] at hR
  rw [decide_eq_false h4] at b4
  by_cases h5 : l.getD 0 0 = 35
  · have hne : l ≠ [] := by rintro rfl; exact absurd h5 (by decide)
    rw [if_pos h5] at hR
    rw [if_pos ⟨h5, hne⟩, decide_eq_true ⟨h5, hne⟩] at CP
    simp only [hR] at CN
    generalize (⟨(l.drop 1).toArray⟩ : ByteArray) = t at CP CN
    clear h1 h2 h3 h4 h5 hne hdl hR
    go_enter Tryd.func62, Tryd.ntmps62
    go_wp2_with (first | (go_at_call 72; refine (CP.out _).mono ?_; rintro e w1 ⟨rfl, rfl⟩) | (go_at_call 78; refine (CN.out _).mono ?_; rintro e w1 ⟨rfl, rfl⟩; unfold nuR))
    go_ret2
    exact ⟨rfl, rfl⟩
  · rw [if_neg h5] at hR
    rw [if_neg (fun h => h5 h.1), decide_eq_false (fun h => h5 h.1)] at CP
    subst hR
    clear h1 h2 h3 h4 h5 hdl CN
    go_enter Tryd.func62, Tryd.ntmps62
    go_wp2_with (first | (go_at_call 72; refine (CP.out _).mono ?_; rintro e w1 ⟨rfl, rfl⟩))
    go_ret2
    exact ⟨rfl, rfl⟩
theorem dec_at (s : ByteArray) (k : Nat) (h : k < s.size) : Utf8.decode s k = dN (s.data.toList.drop k) := by
  have e : ∀ j, (s.data.toList.drop k).getD j 0 = s.get! (k + j) := fun j => by
    rw [get_byte!, List.getD_eq_getElem?_getD, List.getD_eq_getElem?_getD, List.getElem?_drop]
  unfold dN
  rw [decode_at, e, e, e, e, List.length_drop, size_l]
  rfl
def PlR (w : World) (R : Except Nat (List UInt8)) (e : Ending) (w' : World) : Prop := Below w.heap.size w w' ∧ match R with
  | .ok t => e = .returned (.tuple #[.string ⟨t.toArray⟩, .int .i64 0, .bool true])
  | .error p => e = .returned (.tuple #[.string ⟨#[]⟩, .int .i64 (p : Int), .bool false])
def inE (l : List UInt8) (o pos : Nat) : Prop := ∀ j, o < j → j < pos → l[j]? ≠ some 59
theorem upto_end : ∀ {l : List UInt8} (h : ∀ j : Nat, l[j]? ≠ some 59), upto 59 l = l
  | [], _ => rfl
  | b :: l, h => by
    have h0 := h 0
    simp at h0
    have ih := upto_end (l := l) (fun j => by have := h (j + 1); simpa using this)
    unfold upto at *
    rw [List.takeWhile_cons, if_pos (by simpa using h0), ih]
theorem upto_at {l : List UInt8} {k : Nat} (h : ∀ j : Nat, j < k → l[j]? ≠ some 59) (hk : l[k]? = some 59) : upto 59 l = l.take k := by
  induction l generalizing k with
  | nil => simp at hk
  | cons b l ih =>
    unfold upto at *
    cases k with
    | zero =>
      simp at hk
      subst hk
      rfl
    | succ k =>
      have h0 := h 0 (by omega)
      simp at h0
      rw [List.takeWhile_cons, if_pos (by simpa using h0), List.take_succ_cons, ih (k := k) (fun j hj => by have := h (j + 1) (by omega); simpa using this) (by simpa using hk)]
theorem ent_none {l : List UInt8} {o : Nat} (h : inE l o l.length) : ent (l.drop o) = none := by
  have hu : upto 59 ((l.drop o).drop 1) = (l.drop o).drop 1 := upto_end fun j => by
    rw [List.drop_drop, List.getElem?_drop]
    intro hj
    have := (List.getElem?_eq_some_iff.1 hj).1
    exact h (o + 1 + j) (by omega) this hj
  unfold ent
  rw [hu, if_pos rfl]
theorem ent_at {l : List UInt8} {o pos : Nat} (h : inE l o pos) (ho : o < pos) (hp : l[pos]? = some 59) : ent (l.drop o) = (entW ((l.drop (o + 1)).take (pos - (o + 1)))).map fun c => (c, pos + 1 - o) := by
  have hlt := (List.getElem?_eq_some_iff.1 hp).1
  have hu : upto 59 ((l.drop o).drop 1) = (l.drop (o + 1)).take (pos - (o + 1)) := by
    rw [List.drop_drop]
    refine upto_at (fun j hj => ?_) ?_
    · rw [List.getElem?_drop]; exact h (o + 1 + j) (by omega) (by omega)
    · rw [List.getElem?_drop, show o + 1 + (pos - (o + 1)) = pos by omega]; exact hp
  unfold ent
  rw [hu]
  have hl : ((l.drop (o + 1)).take (pos - (o + 1))).length = pos - (o + 1) := by rw [List.length_take, List.length_drop]; omega
  rw [if_neg (by rw [hl, List.drop_drop, List.length_drop]; omega), hl]
  congr 1
  funext c
  congr 1
  omega
theorem vt_next {l : List UInt8} {k : Nat} (h : Vt (l.drop k)) (hk : k < l.length) : ∃ c n, dN (l.drop k) = (c, n) ∧ isP (c : Int) = true ∧ 1 ≤ n ∧ n ≤ 4 ∧ k + n ≤ l.length ∧ Vt (l.drop (k + n)) ∧ (l.drop k).take n = e8 c ∧ (∀ b : Nat, b < 128 → ((c = b ↔ l[k]? = some (bt b)) ∧ (c ≠ b → ∀ j, k ≤ j → j < k + n → l[j]? ≠ some (bt b)))) := by
  obtain ⟨c, r, he, hc, hr, hd⟩ := h.step (by intro h0; have := congrArg List.length h0; rw [List.length_drop] at this; simp at this; omega)
  have hlen := congrArg List.length he
  rw [List.length_drop, List.length_append] at hlen
  have hp := isP_t.1 hc
  have hn := code8.len c
  have ht : (l.drop k).take (e8 c).length = e8 c := by rw [he, List.take_left']; rfl
  have hdr : l.drop (k + (e8 c).length) = r := by rw [← List.drop_drop, he, List.drop_left']; rfl
  have hat : ∀ j, j < (e8 c).length → l[k + j]? = (e8 c)[j]? := fun j hj => by
    rw [← List.getElem?_drop, he, List.getElem?_append_left hj]
  refine ⟨c, (e8 c).length, hd, hc, hn.1, hn.2, by omega, by rw [hdr]; exact hr, ht, fun b hb => ?_⟩
  have h0 := hat 0 (by omega)
  rw [Nat.add_zero] at h0
  by_cases h1 : c < 128
  · rw [e8_low h1] at h0 hat ⊢
    simp only [List.getElem?_cons_zero] at h0
    have key : c = b ↔ l[k]? = some (bt b) := by
      rw [h0]
      constructor
      · rintro rfl; rfl
      · intro h
        injection h with h
        rw [← bt_nat c (by omega), h, bt_nat b (by omega)]
    refine ⟨key, fun hne j hj1 hj2 => ?_⟩
    simp only [List.length_singleton] at hj2
    obtain rfl : j = k := by omega
    intro h
    exact hne (key.2 h)
  · have hh := e8_high (c := c) (by omega) (by omega)
    have hall : ∀ j, j < (e8 c).length → l[k + j]? ≠ some (bt b) := fun j hj => by
      rw [hat j hj, List.getElem?_eq_getElem hj]
      intro h
      injection h with h
      have := hh _ (List.getElem_mem hj)
      rw [h, bt_nat b (by omega)] at this
      omega
    refine ⟨⟨fun h => by omega, fun h => absurd h (hall 0 (by omega))⟩, fun _ j hj1 hj2 => ?_⟩
    obtain ⟨i, rfl⟩ : ∃ i, j = k + i := ⟨j - k, by omega⟩
    exact hall i (by omega)
structure PS (w : World) (s : ByteArray) (R : Except Nat (List UInt8)) (v : Value) (wr : World) (pos : Nat) (acc : List UInt8) : Prop where
  bd : Bd wr w.heap.size w.heap.size acc
  it : wr.heap[w.heap.size + 1]? = some (.stringIter s pos)
  be : Below w.heap.size w wr
  ps : pos ≤ s.size
  al : acc.length ≤ 4 * pos
  vt : Vt (s.data.toList.drop pos)
  at' : (v = .int .i64 (-1) ∧ PL (s.data.toList.drop pos) pos acc R) ∨ ∃ o : Nat, v = .int .i64 (o : Int) ∧ o < pos ∧ PL (s.data.toList.drop o) o acc R ∧ s.data.toList[o]? = some 38 ∧ inE s.data.toList o pos
theorem getD_drop0 (l : List UInt8) (k : Nat) {b : UInt8} (h : l[k]? = some b) : (l.drop k).getD 0 0 = b := by
  rw [List.getD_eq_getElem?_getD, List.getElem?_drop, Nat.add_zero, h]; rfl
theorem drop_ne (l : List UInt8) (k : Nat) (h : k < l.length) : l.drop k ≠ [] := by
  intro h0; have := congrArg List.length h0; rw [List.length_drop] at this; simp at this; omega
set_option maxHeartbeats 4000000 in
theorem plain_any (s : ByteArray) (w : World) (hs : s.size ≤ 1048576) (hv : Vt s.data.toList) :
    Calls Tryd.prog 42 #[.string s] w (PlR w (pl s.data.toList)) := by
  have hs' : (s.size : Int) ≤ 1048576 := by omega
  have HS := hide hs
  have hl : s.data.toList.length = s.size := size_l s
  obtain ⟨R, hR⟩ : ∃ R, pl s.data.toList = R := ⟨_, rfl⟩
  rw [hR]
  have CE := hide entity_any
  have H0 := hide (show PS w s R (.int .i64 (-1)) (((w.alloc (.cells #[.pointer none, .slice none 0 0] 58)).alloc (.stringIter s 0))) 0 [] by
    refine ⟨(Bd.new w).below ((Below.refl _ _).alloc (Nat.le_refl _) _), ?_, ((Below.refl _ w).alloc (Nat.le_refl _) _).alloc (by simp) _, by omega, by simp, by simpa using hv, Or.inl ⟨rfl, by rw [← hR]; simpa using PL.start s.data.toList⟩⟩
    have := World.iter_heap (w.alloc (.cells #[.pointer none, .slice none 0 0] 58)) s 0
    have e : (w.alloc (.cells #[.pointer none, .slice none 0 0] 58)).heap.size = w.heap.size + 1 := by simp
    rw [e] at this
    exact this)
  clear hv hR hs
  go_enter Tryd.func42, Tryd.ntmps42
  go_wp2
  go_loopw [6] (fun v6 wr => ∃ (pos : Nat) (acc : List UInt8), Hid (PS w s R v6 wr pos acc)) (fun _ wr => s.size - wr.iterPos (w.heap.size + 1))
  case atStart => exact ⟨0, [], H0⟩
  case round =>
    clear H0
    obtain ⟨pos, acc, HP⟩ := hrel
    have hit := HP.out.it
    have hbe := HP.out.be
    have hwr : w.heap.size ≤ wr.heap.size := hbe.size
    by_cases hp : pos < s.size
    · have hnx : ∀ ty, (Instr.next (.pointer (some ⟨w.heap.size + 1, 0, none⟩)) true ty).run Tryd.prog wr = _ := fun ty => Lib.run_next_any_at wr (w.heap.size + 1) s pos ty hit hp
      obtain ⟨c, n, hd, hc, hn1, hn4, hle, hvt, htk, hb⟩ := vt_next HP.out.vt (by rw [hl]; exact hp)
      rw [dec_at s pos hp, hd] at hnx
      simp only at hnx
      have hcp := isP_t.1 hc
      have hc1 : (c : Int) ≤ 1114111 := hcp.2.1
      have hc0 : (0 : Int) ≤ (c : Int) := hcp.1
      have B2 := hide (HP.out.bd.kept (KC.iterAt hit (pos + n)))
      have it2 := Lib.iterAt_heap wr (w.heap.size + 1) s pos (pos + n) hit
      have be2 := Lib.below_iterAt hbe (k := w.heap.size + 1) (by omega) s (pos + n)
      have hsz2 : w.heap.size ≤ (wr.iterAt (w.heap.size + 1) s (pos + n)).heap.size := by rw [Lib.iterAt_size]; omega
      have hal := HP.out.al
      rw [hl] at hle
      have IT2 := hide it2
      have BE2 := hide be2
      have LE := hide (And.intro hle (And.intro hn1 hn4))
      have VT := hide hvt
      have b59 := hb 59 (by omega)
      have b38 := hb 38 (by omega)
      have HC := hide hc
      have AL := hide hal
      have hDN := hide hd
      have HTK := hide htk
      have CW := hide (fun (w2 : World) (h : wr.iterAt (w.heap.size + 1) s (pos + n) = w2) => wrune_any w.heap.size w.heap.size acc c w2 hc (by rw [← h]; exact B2.out) (by have := HP.out.al; have := HP.out.ps; have := HS.out; omega) (by rw [← h]; exact hsz2))
      rcases HP.out.at' with ⟨rfl, hPL⟩ | ⟨o, rfl, ho, hPL, h38, hin⟩
      · -- outside of an entity
        have hne := drop_ne s.data.toList pos (by rw [hl]; exact hp)
        by_cases h1 : c = 38
        · subst h1
          have h38 : s.data.toList[pos]? = some 38 := b38.1.1 rfl
          have H1 := hide (show PS w s R (.int .i64 (pos : Int)) (wr.iterAt (w.heap.size + 1) s (pos + n)) (pos + n) acc from
            ⟨B2.out, IT2.out, BE2.out, LE.out.1, by have := AL.out; omega, VT.out, Or.inr ⟨pos, rfl, by omega, hPL, h38, fun j hj1 hj2 => b59.2 (by decide) j (by omega) hj2⟩⟩)
          have hmz : (wr.iterAt (w.heap.size + 1) s (pos + n)).iterPos (w.heap.size + 1) = pos + n ∧ wr.iterPos (w.heap.size + 1) = pos := by
            constructor <;> simp only [World.iterPos, it2, hit]
          have HM := hide hmz
          clear hPL h38 b59 b38 hb hd htk hvt hcp hbe be2 hmz CW
          go_wp2
          go_roundw
          case rel => exact ⟨pos + n, acc, H1⟩
          case measure => have := HM.out; rw [this.1, this.2]; have := LE.out; omega
        · have h38 : ((c : Int) == 38) = false := by rw [beq_eq_false_iff_ne]; omega
          have hg38 : (s.data.toList.drop pos).getD 0 0 ≠ 38 := by
            have hlt : pos < s.data.toList.length := by rw [hl]; exact hp
            intro h
            apply h1
            apply b38.1.2
            rw [List.getD_eq_getElem?_getD, List.getElem?_drop, Nat.add_zero, List.getElem?_eq_getElem hlt] at h
            rw [List.getElem?_eq_getElem hlt]
            show some _ = some (38 : UInt8)
            exact congrArg some (by simpa using h)
          have CC := hide (fun w => ctl_any c w (by omega))
          cases hct : ctl c
          · have hst := hPL.step hne hg38 (by rw [hd]; exact hct)
            rw [hd] at hst
            simp only at hst
            rw [htk, List.drop_drop] at hst
            have HST := hide hst
            rw [hct] at CC
            clear hPL b59 b38 hb hd htk hvt hcp hbe be2 hst hne hg38 hct
            go_wp2_with (first | (go_at_call 53; refine (CC.out _).mono ?_; rintro e w1 ⟨rfl, rfl⟩) | (go_at_call 54; refine (CW.out _ rfl).mono ?_))
            rintro e W1 ⟨rfl, h1', k1⟩
            have H1 := hide (show PS w s R (.int .i64 (-1)) W1 (pos + n) (acc ++ e8 c) from
              ⟨h1', k1.oth.iter IT2.out (by omega), BE2.out.trans k1.below, LE.out.1, by have := AL.out; have := code8.len c; have := congrArg List.length HTK.out; rw [List.length_take] at this; have := LE.out; rw [List.length_append]; omega, VT.out, Or.inl ⟨rfl, HST.out⟩⟩)
            have hmz : W1.iterPos (w.heap.size + 1) = pos + n ∧ wr.iterPos (w.heap.size + 1) = pos := by
              constructor <;> simp only [World.iterPos, k1.oth.iter IT2.out (by omega : w.heap.size + 1 ≠ w.heap.size), hit]
            have HM := hide hmz
            clear h1' k1 hmz CW
            go_wp2
            go_roundw
            case rel => exact ⟨pos + n, _, H1⟩
            case measure => have := HM.out; rw [this.1, this.2]; have := LE.out; omega
          · have hst := hPL.ctl hne hg38 (by rw [hd]; exact hct)
            subst hst
            rw [hct] at CC
            clear hPL b59 b38 hb hd htk hvt hcp hbe be2 hne hg38 hct CW
            go_wp2_with (first | (go_at_call 53; refine (CC.out _).mono ?_; rintro e w1 ⟨rfl, rfl⟩))
            go_ret3
            exact ⟨BE2.out, rfl⟩
      · -- within an entity that begins at o
        have ho' : (o : Int) ≥ 0 := by omega
        have ho2 : (o : Int) < (pos : Int) := by omega
        have hp' : (pos : Int) ≤ (s.size : Int) := by omega
        by_cases h1 : c = 59
        · subst h1
          have h59 : s.data.toList[pos]? = some 59 := b59.1.1 rfl
          have hn : n = 1 := by
            have := congrArg List.length htk
            rw [List.length_take, List.length_drop, hl] at this
            have e : (e8 59).length = 1 := by decide
            omega
          subst hn
          have hea := ent_at hin ho h59
          have hex : (s.extract (o + 1) pos).data.toList = (s.data.toList.drop (o + 1)).take (pos - (o + 1)) := by rw [Lib.extract_data]
          have CE1 := hide (fun w => CE.out (s.extract (o + 1) pos) w (by rw [ByteArray.size_extract]; have := HS.out; omega))
          rw [hex] at CE1
          have hoe := drop_ne s.data.toList o (by rw [hl]; omega)
          have h38g := getD_drop0 _ _ h38
          have gg : IntKind.i64.wrap ((o : Int) + 1) = (o : Int) + 1 := by rw [IntKind.wrap_i64]; omega
          have g1 : (0 : Int) ≤ (o : Int) + 1 := by omega
          have g2 : (o : Int) + 1 ≤ (pos : Int) := by omega
          have g3 : ((o : Int) + 1).toNat = o + 1 := by omega
          cases hW : entW ((s.data.toList.drop (o + 1)).take (pos - (o + 1))) with
          | none =>
            rw [hW] at hea CE1
            have hst := hPL.none hoe h38g hea
            subst hst
            clear hPL b59 b38 hb hd htk hvt hcp hbe be2 hea hW hex hoe h38g h38 h59 CW
            go_wp2_with (first | (go_at_call 62; refine (CE1.out _).mono ?_; rintro e w1 ⟨rfl, rfl⟩; unfold nuR))
            go_ret3
            exact ⟨BE2.out, rfl⟩
          | some d =>
            rw [hW] at hea CE1
            have hst := hPL.ent hoe h38g hea
            rw [List.drop_drop, show o + (pos + 1 - o) = pos + 1 by omega] at hst
            have HST := hide hst
            have hdp := isP_t.1 (entW_P hW).1
            have CW2 := hide (fun (w2 : World) (h : wr.iterAt (w.heap.size + 1) s (pos + 1) = w2) => wrune_any w.heap.size w.heap.size acc d w2 (entW_P hW).1 (by rw [← h]; exact B2.out) (by have := HP.out.al; have := HP.out.ps; have := HS.out; omega) (by rw [← h]; exact hsz2))
            have d1 : (d : Int) ≤ 1114111 := hdp.2.1
            clear hPL b59 b38 hb hd htk hvt hcp hbe be2 hea hW hex hoe h38g h38 h59 CW hst hdp
            go_wp2_with (first | (go_at_call 62; refine (CE1.out _).mono ?_; rintro e w1 ⟨rfl, rfl⟩; unfold nuR; simp only [Option.getD_some, Option.isSome_some]) | (go_at_call 54; refine (CW2.out _ rfl).mono ?_))
            rintro e W1 ⟨rfl, h1', k1⟩
            have H1 := hide (show PS w s R (.int .i64 (-1)) W1 (pos + 1) (acc ++ e8 d) from
              ⟨h1', k1.oth.iter IT2.out (by omega), BE2.out.trans k1.below, LE.out.1, by have := AL.out; have := code8.len d; rw [List.length_append]; omega, VT.out, Or.inl ⟨rfl, HST.out⟩⟩)
            have hmz : W1.iterPos (w.heap.size + 1) = pos + 1 ∧ wr.iterPos (w.heap.size + 1) = pos := by
              constructor <;> simp only [World.iterPos, k1.oth.iter IT2.out (by omega : w.heap.size + 1 ≠ w.heap.size), hit]
            have HM := hide hmz
            clear h1' k1 hmz CW2
            go_wp2
            go_roundw
            case rel => exact ⟨pos + 1, _, H1⟩
            case measure => have := HM.out; rw [this.1, this.2]; have := LE.out; omega
        · have h59 : ((c : Int) == 59) = false := by rw [beq_eq_false_iff_ne]; omega
          have H1 := hide (show PS w s R (.int .i64 (o : Int)) (wr.iterAt (w.heap.size + 1) s (pos + n)) (pos + n) acc from
            ⟨B2.out, IT2.out, BE2.out, LE.out.1, by have := AL.out; omega, VT.out, Or.inr ⟨o, rfl, by omega, hPL, h38, fun j hj1 hj2 => by
              by_cases hj : j < pos
              · exact hin j hj1 hj
              · exact b59.2 h1 j (by omega) hj2⟩⟩)
          have hmz : (wr.iterAt (w.heap.size + 1) s (pos + n)).iterPos (w.heap.size + 1) = pos + n ∧ wr.iterPos (w.heap.size + 1) = pos := by
            constructor <;> simp only [World.iterPos, it2, hit]
          have HM := hide hmz
          clear hPL h38 b59 b38 hb hd htk hvt hcp hbe be2 hmz CW
          go_wp2
          go_roundw
          case rel => exact ⟨pos + n, acc, H1⟩
          case measure => have := HM.out; rw [this.1, this.2]; have := LE.out; omega
    · have hnx : ∀ ty, (Instr.next (.pointer (some ⟨w.heap.size + 1, 0, none⟩)) true ty).run Tryd.prog wr = _ := fun ty => Lib.run_next_end_at wr (w.heap.size + 1) s pos ty hit hp
      have hpe : pos = s.size := by have := HP.out.ps; omega
      rcases HP.out.at' with ⟨rfl, hPL⟩ | ⟨o, rfl, ho, hPL, h38, hin⟩
      · rw [List.drop_eq_nil_of_le (by rw [hl]; omega)] at hPL
        have hst := hPL.done
        subst hst
        have CB := hide (bstr_any w.heap.size w.heap.size acc wr HP.out.bd hwr)
        clear hPL
        go_wp2_with (first | (go_at_call 29; refine CB.out.mono ?_))
        rintro e W1 ⟨rfl, b1⟩
        have HB := hide (hbe.trans b1)
        clear b1
        go_wp2
        go_ret3
        exact ⟨HB.out, rfl⟩
      · subst hpe
        have hst := hPL.none (drop_ne s.data.toList o (by rw [hl]; omega)) (getD_drop0 _ _ h38) (ent_none (by rw [hl]; exact hin))
        subst hst
        have ho' : (o : Int) ≥ 0 := by omega
        clear hPL h38 hin
        go_wp2
        go_ret3
        exact ⟨hbe, rfl⟩
end Go.Proofs.YtpmdekhjodhdmaaDoor.K17
