/-
  What the landed small functions answer: isBlank, isDelimiter, isPlain, isName, nests, must.
-/
import Derived.Test.YtcgoklacjniemaaGreatDoorO5Sub
import Derived.Test.YtcgoklacjniemaaGreatDoorShelf
import Derived.WalkLawsBesides
import Derived.Lib.IndexLaws
namespace Go.Proofs.YtcgoklacjniemaaGreatDoor
open Go.RowKit Go.Deep

theorem oblank_any (b : Nat) (w : World) (h : b < 256) :
    Calls Tryz.prog 78 #[.int .u8 b] w fun e w' => e = .returned (.bool (isBl b)) ∧ w' = w := by
  by_cases hin : b = 9 ∨ b = 10 ∨ b = 12 ∨ b = 13 ∨ b = 32
  · have e : isBl b = true := decide_eq_true hin
    rw [e]
    rcases hin with rfl | rfl | rfl | rfl | rfl
    all_goals
      clear h e
      go_enter Tryz.func78, Tryz.ntmps78
      go_wp2
      go_ret
      exact ⟨rfl, rfl⟩
  · have e : isBl b = false := decide_eq_false hin
    rw [e]
    have n9 : ((b : Int) == 9) = false := by rw [beq_eq_false_iff_ne]; omega
    have n10 : ((b : Int) == 10) = false := by rw [beq_eq_false_iff_ne]; omega
    have n12 : ((b : Int) == 12) = false := by rw [beq_eq_false_iff_ne]; omega
    have n13 : ((b : Int) == 13) = false := by rw [beq_eq_false_iff_ne]; omega
    have n32 : ((b : Int) == 32) = false := by rw [beq_eq_false_iff_ne]; omega
    clear hin e
    go_enter Tryz.func78, Tryz.ntmps78
    go_wp2
    go_ret
    exact ⟨rfl, rfl⟩
theorem delim_idx : ∀ b : Fin 256, decide (0 ≤ Lib.indexByte [40, 41, 60, 62, 91, 93, 123, 125, 47, 37] b.val.toUInt8) = isDl b.val := by decide +kernel
theorem odelim_any (b : Nat) (w : World) (h : b < 256) :
    Calls Tryz.prog 96 #[.int .u8 b] w fun e w' => e = .returned (.bool (isDl b)) ∧ w' = w := by
  have C := hide (Any.strings_IndexByte lays137 ⟨#[40, 41, 60, 62, 91, 93, 123, 125, 47, 37]⟩ (b : Int) w)
  have hd := delim_idx ⟨b, h⟩
  simp only at hd
  rw [show ((b : Int).toNat.toUInt8) = b.toUInt8 by simp] at C
  obtain ⟨I, hI⟩ : ∃ I, Lib.indexByte [40, 41, 60, 62, 91, 93, 123, 125, 47, 37] b.toUInt8 = I := ⟨_, rfl⟩
  rw [hI] at hd
  rw [← hd]
  have C : Hid (Calls Tryz.prog 94 #[.string ⟨#[40, 41, 60, 62, 91, 93, 123, 125, 47, 37]⟩, .int .u8 b] w fun e w' => e = .returned (.int .i64 I) ∧ w' = w) := hide (by rw [← hI]; exact C.out)
  clear hd hI
  go_enter Tryz.func96, Tryz.ntmps96
  go_wp2_with (go_at_call 94; refine C.out.mono ?_; rintro e w1 ⟨rfl, rfl⟩)
  go_ret
  exact ⟨rfl, rfl⟩
def isPl (b : Nat) : Bool := decide (32 < b) && decide (b ≤ 126) && decide (b ≠ 35) && !isDl b
theorem plain_any (b : Nat) (w : World) (h : b < 256) :
    Calls Tryz.prog 72 #[.int .u8 b] w fun e w' => e = .returned (.bool (isPl b)) ∧ w' = w := by
  have C := hide (fun w => odelim_any b w h)
  unfold isPl
  generalize isDl b = D at C
  have e1 : decide (32 < b) = decide ((32 : Int) < (b : Int)) := by simp; omega
  have e2 : decide (b ≤ 126) = decide ((b : Int) ≤ 126) := by simp; omega
  have e3 : decide (b ≠ 35) = ((b : Int) != 35) := by rw [Bool.eq_iff_iff]; simp; omega
  rw [e1, e2, e3]
  clear e1 e2 e3
  cases h1 : decide ((32 : Int) < (b : Int)) <;> cases h2 : decide ((b : Int) ≤ 126) <;> cases h3 : ((b : Int) != 35)
  all_goals
    go_enter Tryz.func72, Tryz.ntmps72
    go_wp2_with (go_at_call 96; refine (C.out _).mono ?_; rintro e w1 ⟨rfl, rfl⟩)
    go_ret
    exact ⟨by simp, rfl⟩
theorem idx_all (l : List UInt8) : decide (Lib.indexByte l (0 : Int).toNat.toUInt8 < 0) = l.all fun c => c.toNat != 0 := by
  have hz : (0 : Int).toNat.toUInt8 = 0 := rfl
  rw [hz]
  induction l with
  | nil => rfl
  | cons c l ih =>
    rw [List.all_cons, ← ih, Lib.indexByte]
    have h0 := Lib.indexByte_ge l 0
    by_cases hc : c = 0
    · subst hc
      simp
    · have hb : (c == 0) = false := by
        rw [beq_eq_false_iff_ne]; exact hc
      have hn : (c.toNat != 0) = true := by
        simp only [bne_iff_ne]
        intro h
        exact hc (UInt8.toNat_inj.1 (by simpa using h))
      rw [hb, hn, Bool.true_and]
      simp only [Bool.false_eq_true, if_false]
      split
      · rename_i h
        rw [eq_of_beq h]
      · rename_i h
        rw [decide_eq_false (by simp at h; omega), decide_eq_false (by simp at h; omega)]
theorem oname_any (s : ByteArray) (w : World) :
    Calls Tryz.prog 67 #[.string s] w fun e w' => e = .returned (.bool (nameB s.data.toList)) ∧ w' = w := by
  have C := hide (fun w => Any.strings_IndexByte lays137 s (0 : Int) w)
  have hb := idx_all s.data.toList
  generalize Lib.indexByte s.data.toList (0 : Int).toNat.toUInt8 = I at C hb
  unfold nameB
  rw [← hb, ← Lib.size_eq]
  clear hb
  have C : Hid (∀ w, Calls Tryz.prog 94 #[.string s, .int .u8 0] w fun e w' => e = .returned (.int .i64 I) ∧ w' = w) := C
  have E := Lib.bytes_beq_iff s ⟨#[]⟩
  by_cases h0 : s = ⟨#[]⟩
  · subst h0
    clear E
    go_enter Tryz.func67, Tryz.ntmps67
    go_wp2_with (go_at_call 94; refine (C.out _).mono ?_; rintro e w1 ⟨rfl, rfl⟩)
    all_goals
      go_ret
      exact ⟨rfl, rfl⟩
  · have hne : ¬ s.toList = [] := fun h => h0 (E.1 (by rw [h, ByteArray.toList_eq]; rfl))
    have h1 : 1 ≤ s.size := by
      rcases Nat.eq_zero_or_pos s.size with h | h
      · exact absurd (ByteArray.ext (Array.eq_empty_of_size_eq_zero h)) h0
      · exact h
    by_cases h2 : s.size ≤ 127
    · have h2' : decide ((s.size : Int) ≤ 127) = true := by simp; omega
      rw [decide_eq_true (show 1 ≤ s.size ∧ s.size ≤ 127 from ⟨h1, h2⟩)]
      clear E h0 h1 h2
      go_enter Tryz.func67, Tryz.ntmps67
      go_wp2_with (go_at_call 94; refine (C.out _).mono ?_; rintro e w1 ⟨rfl, rfl⟩)
      all_goals
        go_ret
        exact ⟨by simp [hne], rfl⟩
    · have h2' : decide ((s.size : Int) ≤ 127) = false := by simp; omega
      rw [decide_eq_false (show ¬ (1 ≤ s.size ∧ s.size ≤ 127) by omega)]
      clear E h0 h1 h2
      go_enter Tryz.func67, Tryz.ntmps67
      go_wp2_with (go_at_call 94; refine (C.out _).mono ?_; rintro e w1 ⟨rfl, rfl⟩)
      all_goals
        go_ret
        exact ⟨by simp, rfl⟩
theorem nests_any (p : Pay) (ka : Option Addr) (kc : Nat) (ia : Option Addr) (n ic : Nat) (w : World) :
    Calls Tryz.prog 37 #[ov p ka kc ia n ic] w fun e w' => e = .returned (.bool (cont p)) ∧ Below w.heap.size w w' := by
  unfold cont
  cases h6 : (p.kind == 6) <;> cases h7 : (p.kind == 7)
  all_goals
    go_enter Tryz.func37, Tryz.ntmps37
    go_wp2
    go_ret
    exact ⟨by simp, (Below.refl _ _).alloc (Nat.le_refl _) _⟩
/- what a reader gives up with -/
abbrev thrown : Ending := .panicked [{ v := .iface 33 (.int .i64 50), recovered := false }]
theorem must_any (t : Bool) (w : World) : Calls Tryz.prog 49 #[.bool t] w fun e w' => (e = if t then .returned (.tuple #[]) else thrown) ∧ w' = w := by
  have hnot : ∀ (x : Bool) (w : World), (Op.unary .not (.bool x)).run Tryz.prog w = .ok (.bool (!x)) w := fun _ _ => rfl
  cases t
  · go_enter Tryz.func49, Tryz.ntmps49
    go_wp2
    exact ⟨rfl, rfl, rfl⟩
  · go_enter Tryz.func49, Tryz.ntmps49
    go_wp2
    go_end0
    exact ⟨rfl, rfl⟩
end Go.Proofs.YtcgoklacjniemaaGreatDoor
