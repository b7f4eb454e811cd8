/-
  What the reference's Of answers.
-/
import Derived.Test.YtcbmjoocehhhnaaDoorG10Qc
import Derived.Test.YtcbmjoocehhhnaaDoorG10Qs
namespace Go.Proofs.YtcbmjoocehhhnaaDoor
open Go.RowKit Go.Deep
set_option linter.unusedVariables false
set_option linter.unusedSimpArgs false

def OfR (w : World) (l : List UInt8) (R : Option (Nat × List Nat)) (e : Ending) (w' : World) : Prop := match R with
  | some (p, ps) => ∃ a1 c1 a2 c2, e = .returned (.tuple #[.agg #[.int .i64 (p : Int), .slice a1 ps.length c1, .slice a2 ps.length c2], .bool true]) ∧ Lst w' a1 (ints (prV l ps)) ∧ Lst w' a2 (ints ps) ∧ Below w.heap.size w w'
  | none => ∃ (p : Nat) (a1 : Option Addr) (n1 c1 : Nat) (a2 : Option Addr) (n2 c2 : Nat), p ≤ 65536 ∧ e = .returned (.tuple #[.agg #[.int .i64 (p : Int), .slice a1 n1 c1, .slice a2 n2 c2], .bool false]) ∧ Below w.heap.size w w'
theorem ro_fin {R : Ending → World → Prop} {a : Act} {V : World} {B : Nat} {x y z : Value} {t : Bool} (hk : Blk V B #[x, y, z] 40) (h4 : a.tmps[2]?.getD undef = .pointer (some ⟨B, 0, none⟩)) (h5 : a.tmps[3]?.getD undef = .bool t) (hd : a.defers = []) (h : R (.returned (.tuple #[.agg #[x, y, z], .bool t])) V) :
    bodyPost Tryd.prog Tryd.f16 R Exit.ret a V := by
  obtain ⟨⟨f0, f1, f2⟩, _⟩ := hk.three
  refine bodyPost_ret (v := .tuple #[.agg #[x, y, z], .bool t]) ?_ hd h
  simp [results, Tryd.results16, go_sem, f0, f1, f2, h4, h5]
theorem Lst.st3 {V : World} {B : Nat} {a : Option Addr} {zs : List Int} (h : Lst V a zs) (hf : ∀ b o, a = some ⟨b, o, none⟩ → B < b) (x y z : Value) : Lst (((V.setCell ⟨B, 0, none⟩ x).setCell ⟨B, 1, none⟩ y).setCell ⟨B, 2, none⟩ z) a zs := by
  rcases h with h | ⟨b, off, h1, h2, h3⟩
  · exact Or.inl h
  · have hne : b ≠ B := by have := hf b off h1; omega
    refine Or.inr ⟨b, off, h1, by simp [World.setCell]; exact h2, fun i hi => ?_⟩
    rw [cell_other hne, cell_other hne, cell_other hne]
    exact h3 i hi
set_option maxRecDepth 8000 in
set_option maxHeartbeats 2000000 in
theorem rof_any (s : ByteArray) (w : World) (hs : s.size ≤ 1000000) : Calls Tryd.prog 16 #[.string s] w (OfR w s.data.toList (shV s.data.toList)) := by
  have hl : s.data.toList.length = s.size := (Lib.size_eq s).symm
  have hs' : (s.size : Int) ≤ 1000000 := by omega
  have HK0 := hide (Blk.new w zs3 40)
  have HB0 : Hid (Below w.heap.size w (w.alloc (.cells zs3 40))) := hide ((Below.refl _ _).alloc (Nat.le_refl _) _)
  have hsz : (w.alloc (.cells zs3 40)).heap.size = w.heap.size + 1 := by simp
  obtain ⟨⟨r0, r1, r2⟩, z0, z1, z2⟩ := HK0.out.three
  unfold shV
  rw [hl]
  by_cases h0 : s.size = 0
  · rw [if_pos h0]
    have he : (s.toList == []) = true := by
      rw [beq_iff_eq, Lib.toList_data]
      exact List.eq_nil_of_length_eq_zero (by rw [hl]; exact h0)
    clear hl h0 hsz
    go_enter Tryd.func16, Tryd.ntmps16
    go_upto_region 1 with (fail)
    generalize w.alloc (.cells zs3 40) = V at HK0 HB0 r0 r1 r2 z0 z1 z2 ⊢
    go_wp2_with fail
    refine ro_fin (t := true) (st3 HK0.out (.int .i64 0) (.slice none 0 0) (.slice none 0 0)) rfl rfl rfl ?_
    exact ⟨none, 0, none, 0, rfl, Or.inl rfl, Or.inl rfl, st3_below HB0.out (Nat.le_refl _) _ _ _⟩
  rw [if_neg h0]
  have hne : (s.toList == []) = false := by
    rw [beq_eq_false_iff_ne, Lib.toList_data]
    intro e
    rw [e] at hl
    simp at hl
    omega
  by_cases h1 : s.size < 10
  · rw [if_pos h1]
    have h1' : (s.size : Int) < 10 := by omega
    clear hl h0 hsz
    go_enter Tryd.func16, Tryd.ntmps16
    go_upto_region 1 with (fail)
    generalize w.alloc (.cells zs3 40) = V at HK0 HB0 r0 r1 r2 z0 z1 z2 ⊢
    go_wp2_with fail
    refine ro_fin (t := false) (st3 HK0.out (.int .i64 0) (.slice none 0 0) (.slice none 0 0)) rfl rfl rfl ?_
    exact ⟨0, none, 0, 0, none, 0, 0, by omega, rfl, st3_below HB0.out (Nat.le_refl _) _ _ _⟩
  rw [if_neg h1]
  have h1' : ¬ (s.size : Int) < 10 := by omega
  have CU := hide (fun (w : World) => ru2_any s 0 0 w rfl (by omega) (by omega))
  have hn := n2_lt s.data.toList 0
  by_cases h2 : n2 s.data.toList 0 = 65535
  · rw [if_pos h2]
    rw [h2] at CU
    have CC := hide (fun (w : World) => rcomp_any s w hs (by omega))
    generalize comV s.data.toList = R at CC ⊢
    clear hl h0 h2 hn r0 r1 r2 z0 z1 z2
    go_enter Tryd.func16, Tryd.ntmps16
    go_upto_region 1 with (fail)
    generalize w.alloc (.cells zs3 40) = V at HK0 HB0 hsz ⊢
    go_wp2_with fail
    refine (CU.out _).mono ?_
    rintro e wy ⟨rfl, m0, hy⟩
    have HK1 : Hid (Blk wy w.heap.size zs3 40) := hide (by rw [hy]; exact HK0.out)
    have HB1 : Hid (Below w.heap.size w wy) := hide (by rw [hy]; exact below_drewN HB0.out m0)
    have hsz1 : wy.heap.size = w.heap.size + 1 := by rw [hy]; exact hsz
    clear hy
    go_wp2_with fail
    have C := CC.out wy
    rcases R with _ | ps
    · refine C.mono ?_
      rintro e w1 ⟨a1, n1, c1, a2, n2', c2, rfl, h3⟩
      have HK2 := hide (HK1.out.below h3)
      have HB2 := hide (below_t5 HB1.out h3)
      obtain ⟨⟨r0, r1, r2⟩, z0, z1, z2⟩ := HK2.out.three
      clear h3
      go_wp2_with fail
      refine ro_fin (t := false) (st3 HK2.out (.int .i64 0) (.slice a1 n1 c1) (.slice a2 n2' c2)) rfl rfl rfl ?_
      exact ⟨0, a1, n1, c1, a2, n2', c2, by omega, rfl, st3_below HB2.out (Nat.le_refl _) _ _ _⟩
    · refine C.mono ?_
      rintro e w1 ⟨a1, c1, a2, c2, rfl, h4, h5, h3, h6, h7⟩
      have HK2 := hide (HK1.out.below h3)
      have HB2 := hide (below_t5 HB1.out h3)
      have HL1 := hide (h4.st3 (B := w.heap.size) (fun b o h => by have := h6 b o h; omega) (.int .i64 0) (.slice a1 ps.length c1) (.slice a2 ps.length c2))
      have HL2 := hide (h5.st3 (B := w.heap.size) (fun b o h => by have := h7 b o h; omega) (.int .i64 0) (.slice a1 ps.length c1) (.slice a2 ps.length c2))
      obtain ⟨⟨r0, r1, r2⟩, z0, z1, z2⟩ := HK2.out.three
      clear h3 h4 h5 h6 h7
      go_wp2_with fail
      refine ro_fin (t := true) (st3 HK2.out (.int .i64 0) (.slice a1 ps.length c1) (.slice a2 ps.length c2)) rfl rfl rfl ?_
      exact ⟨a1, c1, a2, c2, rfl, HL1.out, HL2.out, st3_below HB2.out (Nat.le_refl _) _ _ _⟩
  rw [if_neg h2]
  have t1 : (((n2 s.data.toList 0 : Nat) : Int) == 65535) = false := by rw [beq_eq_false_iff_ne]; omega
  by_cases h3 : 1 ≤ n2 s.data.toList 0 ∧ n2 s.data.toList 0 ≤ 32767
  · rw [if_pos h3]
    have CS := hide (fun (w : World) => rsimple_any s (n2 s.data.toList 0) w hs h3.1 h3.2 (by omega))
    generalize hR : simV s.data.toList (n2 s.data.toList 0) = R at CS ⊢
    generalize n2 s.data.toList 0 = c at CU CS t1 h3
    have t2 : decide ((c : Int) < 1) = false := by simp; omega
    have t3 : decide (32767 < (c : Int)) = false := by simp; omega
    clear hl h0 h2 hn r0 r1 r2 z0 z1 z2 hR
    go_enter Tryd.func16, Tryd.ntmps16
    go_upto_region 1 with (fail)
    generalize w.alloc (.cells zs3 40) = V at HK0 HB0 hsz ⊢
    go_wp2_with fail
    refine (CU.out _).mono ?_
    rintro e wy ⟨rfl, m0, hy⟩
    have HK1 : Hid (Blk wy w.heap.size zs3 40) := hide (by rw [hy]; exact HK0.out)
    have HB1 : Hid (Below w.heap.size w wy) := hide (by rw [hy]; exact below_drewN HB0.out m0)
    clear hy
    go_wp2_with fail
    have C := CS.out wy
    rcases R with _ | p
    · refine C.mono ?_
      rintro e w1 ⟨p, hp, rfl, h3⟩
      have HK2 := hide (HK1.out.below h3)
      have HB2 := hide (below_t5 HB1.out h3)
      obtain ⟨⟨r0, r1, r2⟩, z0, z1, z2⟩ := HK2.out.three
      clear h3
      go_wp2_with fail
      refine ro_fin (t := false) (st3 HK2.out (.int .i64 (p : Int)) (.slice none 0 0) (.slice none 0 0)) rfl rfl rfl ?_
      exact ⟨p, none, 0, 0, none, 0, 0, hp, rfl, st3_below HB2.out (Nat.le_refl _) _ _ _⟩
    · refine C.mono ?_
      rintro e w1 ⟨rfl, h3⟩
      have HK2 := hide (HK1.out.below h3)
      have HB2 := hide (below_t5 HB1.out h3)
      obtain ⟨⟨r0, r1, r2⟩, z0, z1, z2⟩ := HK2.out.three
      clear h3
      go_wp2_with fail
      refine ro_fin (t := true) (st3 HK2.out (.int .i64 (p : Int)) (.slice none 0 0) (.slice none 0 0)) rfl rfl rfl ?_
      exact ⟨none, 0, none, 0, rfl, Or.inl rfl, Or.inl rfl, st3_below HB2.out (Nat.le_refl _) _ _ _⟩
  · rw [if_neg h3]
    generalize n2 s.data.toList 0 = c at CU t1 h3 hn
    have c0 : (0 : Int) ≤ (c : Int) := by omega
    have c5 : (c : Int) ≤ 65535 := by omega
    by_cases hc : c < 1
    · have t2 : decide ((c : Int) < 1) = true := by simp; omega
      clear hl h0 h2 hn r0 r1 r2 z0 z1 z2 h3
      go_enter Tryd.func16, Tryd.ntmps16
      go_upto_region 1 with (fail)
      generalize w.alloc (.cells zs3 40) = V at HK0 HB0 hsz ⊢
      go_wp2_with fail
      refine (CU.out _).mono ?_
      rintro e wy ⟨rfl, m0, hy⟩
      have HK1 : Hid (Blk wy w.heap.size zs3 40) := hide (by rw [hy]; exact HK0.out)
      have HB1 : Hid (Below w.heap.size w wy) := hide (by rw [hy]; exact below_drewN HB0.out m0)
      clear hy
      obtain ⟨⟨r0, r1, r2⟩, z0, z1, z2⟩ := HK1.out.three
      go_wp2_with fail
      refine ro_fin (t := false) (st3 HK1.out (.int .i64 0) (.slice none 0 0) (.slice none 0 0)) rfl rfl rfl ?_
      exact ⟨0, none, 0, 0, none, 0, 0, by omega, rfl, st3_below HB1.out (Nat.le_refl _) _ _ _⟩
    · have t2 : decide ((c : Int) < 1) = false := by simp; omega
      have t3 : decide (32767 < (c : Int)) = true := by simp; omega
      clear hl h0 h2 hn r0 r1 r2 z0 z1 z2 h3
      go_enter Tryd.func16, Tryd.ntmps16
      go_upto_region 1 with (fail)
      generalize w.alloc (.cells zs3 40) = V at HK0 HB0 hsz ⊢
      go_wp2_with fail
      refine (CU.out _).mono ?_
      rintro e wy ⟨rfl, m0, hy⟩
      have HK1 : Hid (Blk wy w.heap.size zs3 40) := hide (by rw [hy]; exact HK0.out)
      have HB1 : Hid (Below w.heap.size w wy) := hide (by rw [hy]; exact below_drewN HB0.out m0)
      clear hy
      obtain ⟨⟨r0, r1, r2⟩, z0, z1, z2⟩ := HK1.out.three
      go_wp2_with fail
      refine ro_fin (t := false) (st3 HK1.out (.int .i64 0) (.slice none 0 0) (.slice none 0 0)) rfl rfl rfl ?_
      exact ⟨0, none, 0, 0, none, 0, 0, by omega, rfl, st3_below HB1.out (Nat.le_refl _) _ _ _⟩
end Go.Proofs.YtcbmjoocehhhnaaDoor
