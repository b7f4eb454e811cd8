/-
  Joined: O5LPs, O5Glp.
-/
import Derived.Test.YtalmcdbdibpgkaaGreatDoorBY
import Derived.Test.YtalmcdbdibpgkaaGreatDoorBD
import Derived.Test.YtalmcdbdibpgkaaGreatDoorBE
import Derived.Test.YtalmcdbdibpgkaaGreatDoorBK
import Derived.Stop.LaidErr
/-
  The law ObjParses, walked: of any text and any place.
-/
namespace Go.Proofs.YtalmcdbdibpgkaaGreatDoor
open Go.RowKit Go.Deep
set_option linter.unusedVariables false

def An (p : Pay) (T : BT Pay) (q : Nat) (er : Int) (w : World) (e : Ending) (w' : World) : Prop :=
  (∃ ka kc ia ic, e = .returned (.tuple #[ov p ka kc ia (flen T) ic, .int .i64 q, .int .i64 er]) ∧ OIn w' p T ka kc ia ic) ∧ Below w.heap.size w w'
theorem An.zero {er : Int} {w w' : World} {e : Ending} (h : e = .returned (.tuple #[zov, .int .i64 0, .int .i64 er]) ∧ Below w.heap.size w w') : An (zp 0 false 0) .nil 0 er w e w' :=
  ⟨⟨none, 0, none, 0, h.1, oin_leaf _ _ (zp_okq 0 false 0 (by omega) (by omega)) rfl⟩, h.2⟩
theorem both_any (s : ByteArray) (i : Int) (hs : s.size ≤ 20000) : ∃ p T q er, (∀ w, Glo5 w → Calls Tryz.prog 14 #[.string s, .int .i64 i] w (An p T q er w)) ∧ (∀ w, Calls Tryz.prog 15 #[.string s, .int .i64 i] w (An p T q er w)) := by
  rcases (show i < 0 ∨ (s.size : Int) < i ∨ (0 ≤ i ∧ i ≤ (s.size : Int)) by omega) with h | h | h
  · exact ⟨_, _, _, 1, fun w _ => (parse_arg s i w (by omega) (Or.inl h)).mono fun e w' h => An.zero h, fun w => (rpa_low s i w (by omega) h).mono fun e w' h => An.zero h⟩
  · exact ⟨_, _, _, 1, fun w _ => (parse_arg s i w (by omega) (Or.inr h)).mono fun e w' h => An.zero h, fun w => (rpa_high s i w (by omega) h).mono fun e w' h => An.zero h⟩
  · obtain ⟨a, rfl⟩ : ∃ a : Nat, i = (a : Int) := ⟨i.toNat, by omega⟩
    obtain ⟨R, h1, h2⟩ := both_parse s a (by omega) (by omega)
    rcases R with _ | ⟨p, T, q⟩
    · exact ⟨_, _, _, 50, fun w hg => (h1 w hg).mono fun e w' h => An.zero h, fun w => (h2 w).mono fun e w' h => An.zero h⟩
    · have key : ∀ {w e w'}, Pq w (some (p, T, q)) e w' → An p T q 0 w e w' := fun h => by
        obtain ⟨⟨ka, kc, ia, ic, he, hin⟩, hb⟩ := h
        exact ⟨⟨ka, kc, ia, ic, he, hin.sub (fresh_sub _ _)⟩, hb⟩
      exact ⟨p, T, q, 0, fun w hg => (h1 w hg).mono fun e w' h => key h, fun w => (h2 w).mono fun e w' h => key h⟩
set_option maxRecDepth 8000 in
set_option maxHeartbeats 1000000 in
theorem objParses_walk (s : ByteArray) (i : Int) (w : World) (hg : Glo5 w) :
    Calls Tryz.prog 4 #[.string s, .int .i64 i] w fun e w' => e = .returned (.bool true) ∧ Below w.heap.size w w' := by
  have CW := hide wakes_any
  by_cases hs : s.size ≤ 20000
  case neg =>
    have h1 : decide ((20000 : Int) < (s.size : Int)) = true := by simp; omega
    go_enter Tryz.func4, Tryz.ntmps4
    go_wp2_with (go_at_call 9; refine (CW.out _).mono ?_; rintro e w7 ⟨rfl, h7⟩)
    go_ret
    exact ⟨rfl, h7⟩
  case pos =>
    have h1 : decide ((20000 : Int) < (s.size : Int)) = false := by simp; omega
    obtain ⟨p, T, q, er, C1, C2⟩ := both_any s i hs
    have C1 := hide (C1 w hg)
    have C2 := hide C2
    clear hs hg
    go_enter Tryz.func4, Tryz.ntmps4
    go_wp2_with fail
    refine C1.out.mono ?_
    rintro e w1 ⟨⟨ka, kc, ia, ic, rfl, hin⟩, hb1⟩
    have hal := (Below.refl w1.heap.size w1).alloc (Nat.le_refl _) (.cells (obox p ka kc ia (flen T) ic) 25)
    have HI1 := hide (hin.below hal)
    have HB1 := hide (below_t5 hb1 hal)
    have HX1 := hide (Blk.new w1 (obox p ka kc ia (flen T) ic) 25)
    clear hin hb1 hal C1
    go_wp2_with fail
    refine (C2.out _).mono ?_
    rintro e w2 ⟨⟨kb, kd, ib, id, rfl, hin⟩, hb2⟩
    have hal := (Below.refl w2.heap.size w2).alloc (Nat.le_refl _) (.cells (obox p kb kd ib (flen T) id) 25)
    have HI2 := hide (hin.below hal)
    have HI1 := hide ((HI1.out.below hb2).below hal)
    have HB2 := hide (below_t5 (below_t5 HB1.out hb2) hal)
    obtain ⟨⟨x0, x1, x2, x3, x4, x5⟩, _⟩ := (HX1.out.below hb2).six
    have hlx := (HX1.out.below hb2).lt
    clear hin hb2 hal C2 HB1 HX1
    have CS := hide (rsame_any p p T T ka kb kc kd ia ib ic id _ HI1.out HI2.out)
    rw [sameV_refl] at CS
    go_wp2_with (first
      | (go_at_call 13; refine CS.out.mono ?_; rintro e w6 ⟨rfl, h6⟩; have H6 := hide (below_t5 HB2.out h6); clear h6)
      | (go_at_call 9; refine (CW.out _).mono ?_; rintro e w7 ⟨rfl, h7⟩; have H7 := hide (below_t5 H6.out h7); clear h7))
    go_ret
    exact ⟨rfl, H7.out⟩
end Go.Proofs.YtalmcdbdibpgkaaGreatDoor
/-
  What strconv's two errors are when a law of chapter 5 begins.
-/
namespace Go.Proofs.YtalmcdbdibpgkaaGreatDoor
open Go.RowKit Go.Lib

theorem star5 : "*" ++ "errors.errorString" = "*errors.errorString" := by decide
theorem row_es (u : TypeId) (h : Tryz.prog.typeName? 3 u = some "*errors.errorString") : u = 148 :=
  typeName_ptr_named (nm := "errors.errorString") (by rw [star5]; kernel_rfl) (by kernel_rfl) (by decide) u (by rw [star5]; exact h)
theorem glo5_of {W : World} (h : laidMetH Tryz.prog Rows.objParsesRow.laid W) (hs : W.ShapedOpen Tryz.prog) : Glo5 W := by
  have hb : D2.Glo W := glo_of h hs
  rw [MakeChecks.laidMetH_plain _ _ _ (by kernel_rfl)] at h
  have h4 := h.tail.tail.tail.tail
  have gR : Tryz.prog.globalNamed "strconv.ErrRange" = some (laysC245_ren.g 16) := by kernel_rfl
  have gS : Tryz.prog.globalNamed "strconv.ErrSyntax" = some (laysC245_ren.g 15) := by kernel_rfl
  obtain ⟨a1, s1, hv1, _⟩ := laid_sentinel h4 gR (by kernel_rfl) Tryz.underlying80 row_es Tryz.underlying148 Tryz.underlying150 rfl rfl Tryz.underlying9 (by kernel_rfl) (by kernel_rfl)
  obtain ⟨a2, s2, hv2, _⟩ := laid_sentinel h4.tail gS (by kernel_rfl) Tryz.underlying80 row_es Tryz.underlying148 Tryz.underlying150 rfl rfl Tryz.underlying9 (by kernel_rfl) (by kernel_rfl)
  exact ⟨hb, ⟨_, _, by simpa using World.var?_cell gS hv2 0⟩, ⟨_, _, by simpa using World.var?_cell gR hv1 0⟩⟩
end Go.Proofs.YtalmcdbdibpgkaaGreatDoor
