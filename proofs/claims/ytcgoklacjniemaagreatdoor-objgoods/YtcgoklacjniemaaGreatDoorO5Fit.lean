/-
  What the landed fits answers, kind by kind.
-/
import Derived.Test.YtcgoklacjniemaaGreatDoorO5Sam
import Derived.Test.YtcgoklacjniemaaGreatDoorO5RGet
import Derived.Test.YtcgoklacjniemaaGreatDoorO5Keys
import Derived.Test.YtcgoklacjniemaaGreatDoorInL
namespace Go.Proofs.YtcgoklacjniemaaGreatDoor
open Go.RowKit Go.Deep

theorem OIn.mod {w : World} {p : Pay} {T : BT Pay} {ka ia : Option Addr} {kc ic : Nat} (h : OIn w p T ka kc ia ic) (f : Bool) {n : Int} {t : ByteArray} (hn : n = p.num ∨ n = 0) (ht : t = p.text ∨ t = ⟨#[]⟩) : OIn w ⟨0, f, n, t, p.keys⟩ T ka kc ia ic := by
  obtain ⟨⟨_, h2, h3, h4⟩, h5⟩ := h
  refine ⟨⟨⟨by simp, by simp⟩, ?_, ?_, h4⟩, h5⟩
  · rcases hn with rfl | rfl
    · exact h2
    · simp
  · rcases ht with rfl | rfl
    · exact h3
    · simp [ByteArray.size]
theorem OIn.noItems {w : World} {p : Pay} {T : BT Pay} {ka ia : Option Addr} {kc ic : Nat} (h : OIn w p T ka kc ia ic) : OIn w p .nil ka kc none 0 := by
  obtain ⟨h1, h2, _⟩ := h
  exact ⟨h1, h2, ⟨by simp [flen], by simp [flen]⟩, by omega, Or.inl rfl⟩
theorem OIn.noKeys {w : World} {p : Pay} {T : BT Pay} {ka ia : Option Addr} {kc ic : Nat} (h : OIn w p T ka kc ia ic) : OIn w ⟨p.kind, p.flag, p.num, p.text, []⟩ T none 0 ia ic := by
  obtain ⟨⟨h1, h2, h3, _⟩, _, h5⟩ := h
  exact ⟨⟨h1, h2, h3, by simp⟩, ⟨Or.inl rfl, ⟨by simp, by simp⟩, by omega⟩, h5⟩
theorem size_zero (t : ByteArray) : (t.toList == (⟨#[]⟩ : ByteArray).toList) = (t.size == 0) := by
  rw [Bool.eq_iff_iff, Lib.bytes_beq_iff, beq_iff_eq]
  constructor
  · rintro rfl; rfl
  · intro h; exact ByteArray.ext (Array.eq_empty_of_size_eq_zero h)
theorem same_z (f : Bool) (n : Int) (t : ByteArray) (k : List ByteArray) (T : BT Pay) : sameV ⟨0, f, n, t, k⟩ T zpay .nil = (!f && n == 0 && t.size == 0 && k.length == 0 && flen T == 0) := by
  unfold sameV payEq eqS zpay
  simp only [size_zero]
  have h1 : keysEq k [] = (k.length == 0) := by cases k <;> simp [keysEq]
  have h2 : sameF T .nil = (flen T == 0) := by cases T <;> simp [sameF, flen]
  rw [h1, h2]
  cases f <;> simp
set_option maxRecDepth 8000 in
set_option maxHeartbeats 4000000 in
theorem fits_0 (p : Pay) (T : BT Pay) (ka : Option Addr) (kc : Nat) (ia : Option Addr) (ic : Nat) (w : World) (hin : OIn w p T ka kc ia ic) (hk : p.kind = 0) :
    Calls Tryz.prog 36 #[ov p ka kc ia (flen T) ic] w fun e w' => e = .returned (.bool (flatV p (flen T))) ∧ Below w.heap.size w w' := by
  have hV : flatV p (flen T) = (true && sameV ⟨0, p.flag, p.num, p.text, p.keys⟩ T zpay .nil) := by
    rw [same_z]
    unfold flatV
    rw [hk]
    simp only [bne]
    cases p.flag <;> cases (p.num == 0) <;> cases (p.text.size == 0) <;> cases (p.keys.length == 0) <;> cases (flen T == 0) <;> simp
  have e0 : (p.kind == 0) = true := by rw [hk]; rfl
  have e1 : (p.kind == 1) = false := by rw [hk]; rfl
  have e2 : (p.kind == 2) = false := by rw [hk]; rfl
  have e3 : (p.kind == 3) = false := by rw [hk]; rfl
  have e4 : (p.kind == 4) = false := by rw [hk]; rfl
  have e5 : (p.kind == 5) = false := by rw [hk]; rfl
  have e6 : (p.kind == 6) = false := by rw [hk]; rfl
  have e7 : (p.kind == 7) = false := by rw [hk]; rfl
  have e8 : (p.kind == 8) = false := by rw [hk]; rfl
  have CS := hide (fun w' h => osame_any ⟨0, p.flag, p.num, p.text, p.keys⟩ zpay T .nil ka none kc 0 ia none ic 0 w' ((OIn.below (w := w) (w' := w') h hin).mod p.flag (Or.inl rfl) (Or.inl rfl)) (zin w'))
  have HB := hide (((Below.refl w.heap.size w).alloc (Nat.le_refl _) (.cells (obox p ka kc ia (flen T) ic) 25)).alloc (by simp) (.cells #[.int .i64 0, .bool p.flag, .int .i64 p.num, .string p.text, .slice ka p.keys.length kc, .slice ia (flen T) ic] 25))
  rw [hV]
  generalize sameV ⟨0, p.flag, p.num, p.text, p.keys⟩ T zpay .nil = S at CS
  clear hV hk hin
  go_enter Tryz.func36, Tryz.ntmps36
  go_wp2_with (go_at_call 14; refine (CS.out _ HB.out).mono ?_; rintro e wy ⟨rfl, hy⟩)
  all_goals
    go_ret
    first | exact ⟨rfl, below_t5 HB.out hy⟩ | exact ⟨rfl, HB.out⟩ | exact ⟨by simp, below_t5 HB.out hy⟩ | exact ⟨by simp, HB.out⟩
set_option maxRecDepth 8000 in
set_option maxHeartbeats 4000000 in
theorem fits_1 (p : Pay) (T : BT Pay) (ka : Option Addr) (kc : Nat) (ia : Option Addr) (ic : Nat) (w : World) (hin : OIn w p T ka kc ia ic) (hk : p.kind = 1) :
    Calls Tryz.prog 36 #[ov p ka kc ia (flen T) ic] w fun e w' => e = .returned (.bool (flatV p (flen T))) ∧ Below w.heap.size w w' := by
  have hV : flatV p (flen T) = (true && sameV ⟨0, false, p.num, p.text, p.keys⟩ T zpay .nil) := by
    rw [same_z]
    unfold flatV
    rw [hk]
    simp only [bne]
    cases p.flag <;> cases (p.num == 0) <;> cases (p.text.size == 0) <;> cases (p.keys.length == 0) <;> cases (flen T == 0) <;> simp
  have e0 : (p.kind == 0) = false := by rw [hk]; rfl
  have e1 : (p.kind == 1) = true := by rw [hk]; rfl
  have e2 : (p.kind == 2) = false := by rw [hk]; rfl
  have e3 : (p.kind == 3) = false := by rw [hk]; rfl
  have e4 : (p.kind == 4) = false := by rw [hk]; rfl
  have e5 : (p.kind == 5) = false := by rw [hk]; rfl
  have e6 : (p.kind == 6) = false := by rw [hk]; rfl
  have e7 : (p.kind == 7) = false := by rw [hk]; rfl
  have e8 : (p.kind == 8) = false := by rw [hk]; rfl
  have CS := hide (fun w' h => osame_any ⟨0, false, p.num, p.text, p.keys⟩ zpay T .nil ka none kc 0 ia none ic 0 w' ((OIn.below (w := w) (w' := w') h hin).mod false (Or.inl rfl) (Or.inl rfl)) (zin w'))
  have HB := hide (((Below.refl w.heap.size w).alloc (Nat.le_refl _) (.cells (obox p ka kc ia (flen T) ic) 25)).alloc (by simp) (.cells #[.int .i64 0, .bool false, .int .i64 p.num, .string p.text, .slice ka p.keys.length kc, .slice ia (flen T) ic] 25))
  rw [hV]
  generalize sameV ⟨0, false, p.num, p.text, p.keys⟩ T zpay .nil = S at CS
  clear hV hk hin
  go_enter Tryz.func36, Tryz.ntmps36
  go_wp2_with (go_at_call 14; refine (CS.out _ HB.out).mono ?_; rintro e wy ⟨rfl, hy⟩)
  all_goals
    go_ret
    first | exact ⟨rfl, below_t5 HB.out hy⟩ | exact ⟨rfl, HB.out⟩ | exact ⟨by simp, below_t5 HB.out hy⟩ | exact ⟨by simp, HB.out⟩
set_option maxRecDepth 8000 in
set_option maxHeartbeats 4000000 in
theorem fits_2 (p : Pay) (T : BT Pay) (ka : Option Addr) (kc : Nat) (ia : Option Addr) (ic : Nat) (w : World) (hin : OIn w p T ka kc ia ic) (hk : p.kind = 2) :
    Calls Tryz.prog 36 #[ov p ka kc ia (flen T) ic] w fun e w' => e = .returned (.bool (flatV p (flen T))) ∧ Below w.heap.size w w' := by
  have hV : flatV p (flen T) = (decide (-1099511627776 ≤ p.num ∧ p.num ≤ 1099511627776) && sameV ⟨0, p.flag, 0, p.text, p.keys⟩ T zpay .nil) := by
    rw [same_z]
    unfold flatV
    rw [hk]
    simp only [bne]
    cases p.flag <;> cases (p.num == 0) <;> cases (p.text.size == 0) <;> cases (p.keys.length == 0) <;> cases (flen T == 0) <;> simp
  have e0 : (p.kind == 0) = false := by rw [hk]; rfl
  have e1 : (p.kind == 1) = false := by rw [hk]; rfl
  have e2 : (p.kind == 2) = true := by rw [hk]; rfl
  have e3 : (p.kind == 3) = false := by rw [hk]; rfl
  have e4 : (p.kind == 4) = false := by rw [hk]; rfl
  have e5 : (p.kind == 5) = false := by rw [hk]; rfl
  have e6 : (p.kind == 6) = false := by rw [hk]; rfl
  have e7 : (p.kind == 7) = false := by rw [hk]; rfl
  have e8 : (p.kind == 8) = false := by rw [hk]; rfl
  have CS := hide (fun w' h => osame_any ⟨0, p.flag, 0, p.text, p.keys⟩ zpay T .nil ka none kc 0 ia none ic 0 w' ((OIn.below (w := w) (w' := w') h hin).mod p.flag (Or.inr rfl) (Or.inl rfl)) (zin w'))
  have HB := hide (((Below.refl w.heap.size w).alloc (Nat.le_refl _) (.cells (obox p ka kc ia (flen T) ic) 25)).alloc (by simp) (.cells #[.int .i64 0, .bool p.flag, .int .i64 0, .string p.text, .slice ka p.keys.length kc, .slice ia (flen T) ic] 25))
  rw [hV]
  generalize sameV ⟨0, p.flag, 0, p.text, p.keys⟩ T zpay .nil = S at CS
  clear hV hk hin
  have CI := hide (fun w => in_any p.num w)
  rw [show decide (-1099511627776 ≤ p.num ∧ p.num ≤ 1099511627776) = inB p.num from rfl]
  generalize inB p.num = I at CI ⊢
  cases I
  all_goals
    go_enter Tryz.func36, Tryz.ntmps36
    go_wp2_with (first | (go_at_call 66; refine (CI.out _).mono ?_; rintro e wx ⟨rfl, rfl⟩) | (go_at_call 14; refine (CS.out _ HB.out).mono ?_; rintro e wy ⟨rfl, hy⟩))
    all_goals
      go_ret
      first | exact ⟨rfl, below_t5 HB.out hy⟩ | exact ⟨rfl, HB.out⟩ | exact ⟨by simp, below_t5 HB.out hy⟩ | exact ⟨by simp, HB.out⟩
set_option maxRecDepth 8000 in
set_option maxHeartbeats 4000000 in
theorem fits_3 (p : Pay) (T : BT Pay) (ka : Option Addr) (kc : Nat) (ia : Option Addr) (ic : Nat) (w : World) (hin : OIn w p T ka kc ia ic) (hk : p.kind = 3) :
    Calls Tryz.prog 36 #[ov p ka kc ia (flen T) ic] w fun e w' => e = .returned (.bool (flatV p (flen T))) ∧ Below w.heap.size w w' := by
  have hV : flatV p (flen T) = ((decide (-1099511627776 ≤ p.num ∧ p.num ≤ 1099511627776) && decide (p.num % 65536 ≠ 0)) && sameV ⟨0, p.flag, 0, p.text, p.keys⟩ T zpay .nil) := by
    rw [same_z]
    unfold flatV
    rw [hk]
    simp only [bne]
    cases p.flag <;> cases (p.num == 0) <;> cases (p.text.size == 0) <;> cases (p.keys.length == 0) <;> cases (flen T == 0) <;> simp
  have e0 : (p.kind == 0) = false := by rw [hk]; rfl
  have e1 : (p.kind == 1) = false := by rw [hk]; rfl
  have e2 : (p.kind == 2) = false := by rw [hk]; rfl
  have e3 : (p.kind == 3) = true := by rw [hk]; rfl
  have e4 : (p.kind == 4) = false := by rw [hk]; rfl
  have e5 : (p.kind == 5) = false := by rw [hk]; rfl
  have e6 : (p.kind == 6) = false := by rw [hk]; rfl
  have e7 : (p.kind == 7) = false := by rw [hk]; rfl
  have e8 : (p.kind == 8) = false := by rw [hk]; rfl
  have CS := hide (fun w' h => osame_any ⟨0, p.flag, 0, p.text, p.keys⟩ zpay T .nil ka none kc 0 ia none ic 0 w' ((OIn.below (w := w) (w' := w') h hin).mod p.flag (Or.inr rfl) (Or.inl rfl)) (zin w'))
  have HB := hide (((Below.refl w.heap.size w).alloc (Nat.le_refl _) (.cells (obox p ka kc ia (flen T) ic) 25)).alloc (by simp) (.cells #[.int .i64 0, .bool p.flag, .int .i64 0, .string p.text, .slice ka p.keys.length kc, .slice ia (flen T) ic] 25))
  rw [hV]
  generalize sameV ⟨0, p.flag, 0, p.text, p.keys⟩ T zpay .nil = S at CS
  clear hV hk hin
  have CI := hide (fun w => in_any p.num w)
  rw [show decide (-1099511627776 ≤ p.num ∧ p.num ≤ 1099511627776) = inB p.num from rfl]
  generalize inB p.num = I at CI ⊢
  have hD : decide (p.num % 65536 ≠ 0) = (p.num.tmod 65536 != 0) := by
    rw [Bool.eq_iff_iff, decide_eq_true_iff, bne_iff_ne]
    constructor <;> intro h h' <;> apply h
    · exact Int.emod_eq_zero_of_dvd (Int.dvd_of_tmod_eq_zero h')
    · exact Int.tmod_eq_zero_of_dvd (Int.dvd_of_emod_eq_zero h')
  rw [hD]
  cases hD2 : (p.num.tmod 65536 != 0) <;> cases I
  all_goals
    go_enter Tryz.func36, Tryz.ntmps36
    go_wp2_with (first | (go_at_call 66; refine (CI.out _).mono ?_; rintro e wx ⟨rfl, rfl⟩) | (go_at_call 14; refine (CS.out _ HB.out).mono ?_; rintro e wy ⟨rfl, hy⟩))
    all_goals
      go_ret
      first | exact ⟨rfl, below_t5 HB.out hy⟩ | exact ⟨rfl, HB.out⟩ | exact ⟨by simp, below_t5 HB.out hy⟩ | exact ⟨by simp, HB.out⟩
set_option maxRecDepth 8000 in
set_option maxHeartbeats 4000000 in
theorem fits_4 (p : Pay) (T : BT Pay) (ka : Option Addr) (kc : Nat) (ia : Option Addr) (ic : Nat) (w : World) (hin : OIn w p T ka kc ia ic) (hk : p.kind = 4) :
    Calls Tryz.prog 36 #[ov p ka kc ia (flen T) ic] w fun e w' => e = .returned (.bool (flatV p (flen T))) ∧ Below w.heap.size w w' := by
  have hV : flatV p (flen T) = (nameB p.text.data.toList && sameV ⟨0, p.flag, p.num, ⟨#[]⟩, p.keys⟩ T zpay .nil) := by
    rw [same_z]
    unfold flatV
    rw [hk]
    simp only [bne]
    cases p.flag <;> cases (p.num == 0) <;> cases (p.text.size == 0) <;> cases (p.keys.length == 0) <;> cases (flen T == 0) <;> simp [ByteArray.size]
  have e0 : (p.kind == 0) = false := by rw [hk]; rfl
  have e1 : (p.kind == 1) = false := by rw [hk]; rfl
  have e2 : (p.kind == 2) = false := by rw [hk]; rfl
  have e3 : (p.kind == 3) = false := by rw [hk]; rfl
  have e4 : (p.kind == 4) = true := by rw [hk]; rfl
  have e5 : (p.kind == 5) = false := by rw [hk]; rfl
  have e6 : (p.kind == 6) = false := by rw [hk]; rfl
  have e7 : (p.kind == 7) = false := by rw [hk]; rfl
  have e8 : (p.kind == 8) = false := by rw [hk]; rfl
  have CS := hide (fun w' h => osame_any ⟨0, p.flag, p.num, ⟨#[]⟩, p.keys⟩ zpay T .nil ka none kc 0 ia none ic 0 w' ((OIn.below (w := w) (w' := w') h hin).mod p.flag (Or.inl rfl) (Or.inr rfl)) (zin w'))
  have HB := hide (((Below.refl w.heap.size w).alloc (Nat.le_refl _) (.cells (obox p ka kc ia (flen T) ic) 25)).alloc (by simp) (.cells #[.int .i64 0, .bool p.flag, .int .i64 p.num, .string ⟨#[]⟩, .slice ka p.keys.length kc, .slice ia (flen T) ic] 25))
  rw [hV]
  generalize sameV ⟨0, p.flag, p.num, ⟨#[]⟩, p.keys⟩ T zpay .nil = S at CS
  clear hV hk hin
  have CI := hide (fun w => oname_any p.text w)
  generalize nameB p.text.data.toList = I at CI ⊢
  cases I
  all_goals
    go_enter Tryz.func36, Tryz.ntmps36
    go_wp2_with (first | (go_at_call 67; refine (CI.out _).mono ?_; rintro e wx ⟨rfl, rfl⟩) | (go_at_call 14; refine (CS.out _ HB.out).mono ?_; rintro e wy ⟨rfl, hy⟩))
    all_goals
      go_ret
      first | exact ⟨rfl, below_t5 HB.out hy⟩ | exact ⟨rfl, HB.out⟩ | exact ⟨by simp, below_t5 HB.out hy⟩ | exact ⟨by simp, HB.out⟩
set_option maxRecDepth 8000 in
set_option maxHeartbeats 4000000 in
theorem fits_5 (p : Pay) (T : BT Pay) (ka : Option Addr) (kc : Nat) (ia : Option Addr) (ic : Nat) (w : World) (hin : OIn w p T ka kc ia ic) (hk : p.kind = 5) :
    Calls Tryz.prog 36 #[ov p ka kc ia (flen T) ic] w fun e w' => e = .returned (.bool (flatV p (flen T))) ∧ Below w.heap.size w w' := by
  have hV : flatV p (flen T) = (decide (p.text.size ≤ 65536) && sameV ⟨0, p.flag, p.num, ⟨#[]⟩, p.keys⟩ T zpay .nil) := by
    rw [same_z]
    unfold flatV
    rw [hk]
    simp only [bne]
    generalize decide (p.text.size ≤ 65536) = Z
    cases p.flag <;> cases (p.num == 0) <;> cases (p.text.size == 0) <;> cases (p.keys.length == 0) <;> cases (flen T == 0) <;> simp [ByteArray.size]
  have e0 : (p.kind == 0) = false := by rw [hk]; rfl
  have e1 : (p.kind == 1) = false := by rw [hk]; rfl
  have e2 : (p.kind == 2) = false := by rw [hk]; rfl
  have e3 : (p.kind == 3) = false := by rw [hk]; rfl
  have e4 : (p.kind == 4) = false := by rw [hk]; rfl
  have e5 : (p.kind == 5) = true := by rw [hk]; rfl
  have e6 : (p.kind == 6) = false := by rw [hk]; rfl
  have e7 : (p.kind == 7) = false := by rw [hk]; rfl
  have e8 : (p.kind == 8) = false := by rw [hk]; rfl
  have CS := hide (fun w' h => osame_any ⟨0, p.flag, p.num, ⟨#[]⟩, p.keys⟩ zpay T .nil ka none kc 0 ia none ic 0 w' ((OIn.below (w := w) (w' := w') h hin).mod p.flag (Or.inl rfl) (Or.inr rfl)) (zin w'))
  have HB := hide (((Below.refl w.heap.size w).alloc (Nat.le_refl _) (.cells (obox p ka kc ia (flen T) ic) 25)).alloc (by simp) (.cells #[.int .i64 0, .bool p.flag, .int .i64 p.num, .string ⟨#[]⟩, .slice ka p.keys.length kc, .slice ia (flen T) ic] 25))
  rw [hV]
  generalize sameV ⟨0, p.flag, p.num, ⟨#[]⟩, p.keys⟩ T zpay .nil = S at CS
  clear hV hk hin
  have hD : decide (p.text.size ≤ 65536) = decide ((p.text.size : Int) ≤ 65536) := by simp; omega
  rw [hD]
  cases h5 : decide ((p.text.size : Int) ≤ 65536)
  all_goals
    go_enter Tryz.func36, Tryz.ntmps36
    go_wp2_with (go_at_call 14; refine (CS.out _ HB.out).mono ?_; rintro e wy ⟨rfl, hy⟩)
    all_goals
      go_ret
      first | exact ⟨rfl, below_t5 HB.out hy⟩ | exact ⟨rfl, HB.out⟩ | exact ⟨by simp, below_t5 HB.out hy⟩ | exact ⟨by simp, HB.out⟩
set_option maxRecDepth 8000 in
set_option maxHeartbeats 4000000 in
theorem fits_6 (p : Pay) (T : BT Pay) (ka : Option Addr) (kc : Nat) (ia : Option Addr) (ic : Nat) (w : World) (hin : OIn w p T ka kc ia ic) (hk : p.kind = 6) :
    Calls Tryz.prog 36 #[ov p ka kc ia (flen T) ic] w fun e w' => e = .returned (.bool (flatV p (flen T))) ∧ Below w.heap.size w w' := by
  have hV : flatV p (flen T) = (true && sameV ⟨0, p.flag, p.num, p.text, p.keys⟩ .nil zpay .nil) := by
    rw [same_z]
    unfold flatV
    rw [hk]
    simp only [bne]
    cases p.flag <;> cases (p.num == 0) <;> cases (p.text.size == 0) <;> cases (p.keys.length == 0) <;> cases (flen T == 0) <;> simp [flen]
  have e0 : (p.kind == 0) = false := by rw [hk]; rfl
  have e1 : (p.kind == 1) = false := by rw [hk]; rfl
  have e2 : (p.kind == 2) = false := by rw [hk]; rfl
  have e3 : (p.kind == 3) = false := by rw [hk]; rfl
  have e4 : (p.kind == 4) = false := by rw [hk]; rfl
  have e5 : (p.kind == 5) = false := by rw [hk]; rfl
  have e6 : (p.kind == 6) = true := by rw [hk]; rfl
  have e7 : (p.kind == 7) = false := by rw [hk]; rfl
  have e8 : (p.kind == 8) = false := by rw [hk]; rfl
  have CS := hide (fun w' h => osame_any ⟨0, p.flag, p.num, p.text, p.keys⟩ zpay .nil .nil ka none kc 0 none none 0 0 w' (((OIn.below (w := w) (w' := w') h hin).mod p.flag (Or.inl rfl) (Or.inl rfl)).noItems) (zin w'))
  have HB := hide (((Below.refl w.heap.size w).alloc (Nat.le_refl _) (.cells (obox p ka kc ia (flen T) ic) 25)).alloc (by simp) (.cells #[.int .i64 0, .bool p.flag, .int .i64 p.num, .string p.text, .slice ka p.keys.length kc, .slice none 0 0] 25))
  rw [hV]
  generalize sameV ⟨0, p.flag, p.num, p.text, p.keys⟩ .nil zpay .nil = S at CS
  clear hV hk hin
  go_enter Tryz.func36, Tryz.ntmps36
  go_wp2_with (go_at_call 14; refine (CS.out _ HB.out).mono ?_; rintro e wy ⟨rfl, hy⟩)
  all_goals
    go_ret
    first | exact ⟨rfl, below_t5 HB.out hy⟩ | exact ⟨rfl, HB.out⟩ | exact ⟨by simp, below_t5 HB.out hy⟩ | exact ⟨by simp, HB.out⟩
set_option maxRecDepth 8000 in
set_option maxHeartbeats 4000000 in
theorem fits_8 (p : Pay) (T : BT Pay) (ka : Option Addr) (kc : Nat) (ia : Option Addr) (ic : Nat) (w : World) (hin : OIn w p T ka kc ia ic) (hk : p.kind = 8) :
    Calls Tryz.prog 36 #[ov p ka kc ia (flen T) ic] w fun e w' => e = .returned (.bool (flatV p (flen T))) ∧ Below w.heap.size w w' := by
  have hV : flatV p (flen T) = (decide (1 ≤ p.num ∧ p.num ≤ 4096) && sameV ⟨0, p.flag, 0, p.text, p.keys⟩ T zpay .nil) := by
    rw [same_z]
    unfold flatV
    rw [hk]
    simp only [bne]
    cases p.flag <;> cases (p.num == 0) <;> cases (p.text.size == 0) <;> cases (p.keys.length == 0) <;> cases (flen T == 0) <;> simp
  have e0 : (p.kind == 0) = false := by rw [hk]; rfl
  have e1 : (p.kind == 1) = false := by rw [hk]; rfl
  have e2 : (p.kind == 2) = false := by rw [hk]; rfl
  have e3 : (p.kind == 3) = false := by rw [hk]; rfl
  have e4 : (p.kind == 4) = false := by rw [hk]; rfl
  have e5 : (p.kind == 5) = false := by rw [hk]; rfl
  have e6 : (p.kind == 6) = false := by rw [hk]; rfl
  have e7 : (p.kind == 7) = false := by rw [hk]; rfl
  have e8 : (p.kind == 8) = true := by rw [hk]; rfl
  have CS := hide (fun w' h => osame_any ⟨0, p.flag, 0, p.text, p.keys⟩ zpay T .nil ka none kc 0 ia none ic 0 w' ((OIn.below (w := w) (w' := w') h hin).mod p.flag (Or.inr rfl) (Or.inl rfl)) (zin w'))
  have HB := hide (((Below.refl w.heap.size w).alloc (Nat.le_refl _) (.cells (obox p ka kc ia (flen T) ic) 25)).alloc (by simp) (.cells #[.int .i64 0, .bool p.flag, .int .i64 0, .string p.text, .slice ka p.keys.length kc, .slice ia (flen T) ic] 25))
  rw [hV]
  generalize sameV ⟨0, p.flag, 0, p.text, p.keys⟩ T zpay .nil = S at CS
  clear hV hk hin
  rw [Bool.decide_and]
  cases h1 : decide (1 ≤ p.num) <;> cases h2 : decide (p.num ≤ 4096)
  all_goals
    go_enter Tryz.func36, Tryz.ntmps36
    go_wp2_with (go_at_call 14; refine (CS.out _ HB.out).mono ?_; rintro e wy ⟨rfl, hy⟩)
    all_goals
      go_ret
      first | exact ⟨rfl, below_t5 HB.out hy⟩ | exact ⟨rfl, HB.out⟩ | exact ⟨by simp, below_t5 HB.out hy⟩ | exact ⟨by simp, HB.out⟩
set_option maxRecDepth 8000 in
set_option maxHeartbeats 4000000 in
theorem fits_7 (p : Pay) (T : BT Pay) (ka : Option Addr) (kc : Nat) (ia : Option Addr) (ic : Nat) (w : World) (hin : OIn w p T ka kc ia ic) (hk : p.kind = 7) :
    Calls Tryz.prog 36 #[ov p ka kc ia (flen T) ic] w fun e w' => e = .returned (.bool (flatV p (flen T))) ∧ Below w.heap.size w w' := by
  have hV : flatV p (flen T) = ((decide (p.keys.length = flen T) && keysB [] p.keys) && sameV ⟨0, p.flag, p.num, p.text, []⟩ .nil zpay .nil) := by
    rw [same_z]
    unfold flatV
    rw [hk]
    simp only [bne]
    cases p.flag <;> cases (p.num == 0) <;> cases (p.text.size == 0) <;> cases (p.keys.length == 0) <;> cases (flen T == 0) <;> simp [flen]
  have e0 : (p.kind == 0) = false := by rw [hk]; rfl
  have e1 : (p.kind == 1) = false := by rw [hk]; rfl
  have e2 : (p.kind == 2) = false := by rw [hk]; rfl
  have e3 : (p.kind == 3) = false := by rw [hk]; rfl
  have e4 : (p.kind == 4) = false := by rw [hk]; rfl
  have e5 : (p.kind == 5) = false := by rw [hk]; rfl
  have e6 : (p.kind == 6) = false := by rw [hk]; rfl
  have e7 : (p.kind == 7) = true := by rw [hk]; rfl
  have e8 : (p.kind == 8) = false := by rw [hk]; rfl
  have CS := hide (fun w' h => osame_any ⟨0, p.flag, p.num, p.text, []⟩ zpay .nil .nil none none 0 0 none none 0 0 w' (((OIn.below (w := w) (w' := w') h hin).mod p.flag (Or.inl rfl) (Or.inl rfl)).noItems.noKeys) (zin w'))
  have HB := hide (((Below.refl w.heap.size w).alloc (Nat.le_refl _) (.cells (obox p ka kc ia (flen T) ic) 25)).alloc (by simp) (.cells #[.int .i64 0, .bool p.flag, .int .i64 p.num, .string p.text, .slice ka p.keys.length kc, .slice ia (flen T) ic] 25))
  have HB2 := hide (((Below.refl w.heap.size w).alloc (Nat.le_refl _) (.cells (obox p ka kc ia (flen T) ic) 25)).alloc (by simp) (.cells #[.int .i64 0, .bool p.flag, .int .i64 p.num, .string p.text, .slice none 0 0, .slice none 0 0] 25))
  have CK := hide (fun w' h => areKeys_any ka p.keys kc w' (Strs.below (w := w) (w' := w') hin.2.1.1 h) (by have := hin.2.1.2.1; omega) hin.1.2.2.2)
  rw [hV]
  generalize sameV ⟨0, p.flag, p.num, p.text, []⟩ .nil zpay .nil = S at CS
  generalize keysB [] p.keys = KB at CK
  have hl1 : (flen T : Int) ≤ 9223372036854775807 := by have h := hin.2.2.1; have h' := hin.2.2.2.1; omega
  have hl3 : (p.keys.length : Int) ≤ 9223372036854775807 := by have h := hin.2.1.2.1; have h' := hin.2.1.2.2; omega
  have hD : decide (p.keys.length = flen T) = ((p.keys.length : Int) == (flen T : Int)) := by rw [Bool.eq_iff_iff, decide_eq_true_iff, beq_iff_eq]; omega
  rw [hD]
  have HR : Hid (Blk ((w.alloc (.cells (obox p ka kc ia (flen T) ic) 25)).alloc (.cells #[.int .i64 0, .bool p.flag, .int .i64 p.num, .string p.text, .slice ka p.keys.length kc, .slice ia (flen T) ic] 25)) (w.heap.size + 1) #[.int .i64 0, .bool p.flag, .int .i64 p.num, .string p.text, .slice ka p.keys.length kc, .slice ia (flen T) ic] 25) := hide (by
    have := Blk.new (w.alloc (.cells (obox p ka kc ia (flen T) ic) 25)) #[.int .i64 0, .bool p.flag, .int .i64 p.num, .string p.text, .slice ka p.keys.length kc, .slice ia (flen T) ic] 25
    rwa [show (w.alloc (.cells (obox p ka kc ia (flen T) ic) 25)).heap.size = w.heap.size + 1 by simp] at this)
  clear hV hk hin hD
  cases hE : ((p.keys.length : Int) == (flen T : Int))
  · go_enter Tryz.func36, Tryz.ntmps36
    go_wp2_with fail
    go_ret
    exact ⟨by simp, HB2.out⟩
  cases KB
  all_goals
    go_enter Tryz.func36, Tryz.ntmps36
    go_wp2_with (first | (go_at_call 68; refine (CK.out _ HB.out).mono ?_; rintro e wx ⟨rfl, hx⟩; have HX := hide hx; obtain ⟨⟨r0, r1, r2, r3, r4, r5⟩, ⟨y0, y1, y2, y3, y4, y5⟩⟩ := (HR.out.below hx).six; clear hx) | (go_at_call 14; refine (CS.out _ ?_).mono ?_; exact ((below_t5 HB.out HX.out).setCell (p := ⟨w.heap.size + 1, 4, none⟩) (by simp) _).setCell (p := ⟨w.heap.size + 1, 5, none⟩) (by simp) _; rintro e wy ⟨rfl, hy⟩))
    go_ret
    first | exact ⟨by simp, below_t5 (((below_t5 HB.out HX.out).setCell (p := ⟨w.heap.size + 1, 4, none⟩) (by simp) _).setCell (p := ⟨w.heap.size + 1, 5, none⟩) (by simp) _) hy⟩ | exact ⟨by simp, ((below_t5 HB.out HX.out).setCell (p := ⟨w.heap.size + 1, 4, none⟩) (by simp) _).setCell (p := ⟨w.heap.size + 1, 5, none⟩) (by simp) _⟩
set_option maxRecDepth 8000 in
set_option maxHeartbeats 4000000 in
theorem fits_none (p : Pay) (T : BT Pay) (ka : Option Addr) (kc : Nat) (ia : Option Addr) (ic : Nat) (w : World) (hk : ∀ j : Int, 0 ≤ j → j ≤ 8 → p.kind ≠ j) :
    Calls Tryz.prog 36 #[ov p ka kc ia (flen T) ic] w fun e w' => e = .returned (.bool (flatV p (flen T))) ∧ Below w.heap.size w w' := by
  have hV : flatV p (flen T) = false := by
    unfold flatV
    have h0 := hk 0 (by omega) (by omega)
    have h1 := hk 1 (by omega) (by omega)
    have h2 := hk 2 (by omega) (by omega)
    have h3 := hk 3 (by omega) (by omega)
    have h4 := hk 4 (by omega) (by omega)
    have h5 := hk 5 (by omega) (by omega)
    have h6 := hk 6 (by omega) (by omega)
    have h7 := hk 7 (by omega) (by omega)
    have h8 := hk 8 (by omega) (by omega)
    rw [if_neg h2, if_neg h3, if_neg h4, if_neg h5, if_neg h7, if_neg h8]
    simp [h0, h1, h6]
  have e0 : (p.kind == 0) = false := by rw [beq_eq_false_iff_ne]; exact hk 0 (by omega) (by omega)
  have e1 : (p.kind == 1) = false := by rw [beq_eq_false_iff_ne]; exact hk 1 (by omega) (by omega)
  have e2 : (p.kind == 2) = false := by rw [beq_eq_false_iff_ne]; exact hk 2 (by omega) (by omega)
  have e3 : (p.kind == 3) = false := by rw [beq_eq_false_iff_ne]; exact hk 3 (by omega) (by omega)
  have e4 : (p.kind == 4) = false := by rw [beq_eq_false_iff_ne]; exact hk 4 (by omega) (by omega)
  have e5 : (p.kind == 5) = false := by rw [beq_eq_false_iff_ne]; exact hk 5 (by omega) (by omega)
  have e6 : (p.kind == 6) = false := by rw [beq_eq_false_iff_ne]; exact hk 6 (by omega) (by omega)
  have e7 : (p.kind == 7) = false := by rw [beq_eq_false_iff_ne]; exact hk 7 (by omega) (by omega)
  have e8 : (p.kind == 8) = false := by rw [beq_eq_false_iff_ne]; exact hk 8 (by omega) (by omega)
  have HB := hide (((Below.refl w.heap.size w).alloc (Nat.le_refl _) (.cells (obox p ka kc ia (flen T) ic) 25)).alloc (by simp) (.cells #[.int .i64 0, .bool p.flag, .int .i64 p.num, .string p.text, .slice ka p.keys.length kc, .slice ia (flen T) ic] 25))
  rw [hV]
  clear hV hk
  go_enter Tryz.func36, Tryz.ntmps36
  go_wp2_with fail
  go_ret
  exact ⟨rfl, HB.out⟩
theorem fits_any (p : Pay) (T : BT Pay) (ka : Option Addr) (kc : Nat) (ia : Option Addr) (ic : Nat) (w : World) (hin : OIn w p T ka kc ia ic) :
    Calls Tryz.prog 36 #[ov p ka kc ia (flen T) ic] w fun e w' => e = .returned (.bool (flatV p (flen T))) ∧ Below w.heap.size w w' := by
  by_cases h0 : p.kind = 0
  · exact fits_0 p T ka kc ia ic w hin h0
  by_cases h1 : p.kind = 1
  · exact fits_1 p T ka kc ia ic w hin h1
  by_cases h2 : p.kind = 2
  · exact fits_2 p T ka kc ia ic w hin h2
  by_cases h3 : p.kind = 3
  · exact fits_3 p T ka kc ia ic w hin h3
  by_cases h4 : p.kind = 4
  · exact fits_4 p T ka kc ia ic w hin h4
  by_cases h5 : p.kind = 5
  · exact fits_5 p T ka kc ia ic w hin h5
  by_cases h6 : p.kind = 6
  · exact fits_6 p T ka kc ia ic w hin h6
  by_cases h7 : p.kind = 7
  · exact fits_7 p T ka kc ia ic w hin h7
  by_cases h8 : p.kind = 8
  · exact fits_8 p T ka kc ia ic w hin h8
  exact fits_none p T ka kc ia ic w fun j a b => by omega
end Go.Proofs.YtcgoklacjniemaaGreatDoor
