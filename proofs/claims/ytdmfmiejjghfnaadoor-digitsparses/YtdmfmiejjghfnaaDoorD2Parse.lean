/-
  What digits.Parse answers of any text.
-/
import Derived.Test.YtdmfmiejjghfnaaDoorD2NearP
namespace Go.Proofs.YtdmfmiejjghfnaaDoor
open Go.RowKit Go.Lib

theorem parse_bad (s : ByteArray) (x e : Int) (w : World) (he : (e != 0) = true)
    (cN : Calls Tryd.prog 14 #[.string s] w fun r w' => r = .returned (.tuple #[.int .i64 x, .int .i64 e]) ∧ Below w.heap.size w w') :
    Calls Tryd.prog 12 #[.string s] w fun r w' => r = .returned (.tuple #[.int .i64 0, .bool false]) ∧ Below w.heap.size w w' := by
  have CN := hide cN
  clear cN
  have he' : ¬ e = 0 := by simpa using he
  go_enter Tryd.func12, Tryd.ntmps12
  go_wp2_with (go_at_call 14; refine CN.out.mono ?_; rintro r w1 ⟨rfl, hb⟩)
  go_ret2
  exact ⟨rfl, hb⟩
theorem parse_core (s t : ByteArray) (x : Int) (b : Bool) (w : World) (hb : (t.toList == s.toList) = b)
    (cN : Calls Tryd.prog 14 #[.string s] w fun r w' => r = .returned (.tuple #[.int .i64 x, .int .i64 0]) ∧ Below w.heap.size w w')
    (cT : ∀ w1, Below w.heap.size w w1 → Calls Tryd.prog 9 #[.int .i64 x] w1 fun r w' => r = .returned (.tuple #[.string t, .bool true]) ∧ Below w1.heap.size w1 w') :
    Calls Tryd.prog 12 #[.string s] w fun r w' => r = .returned (.tuple #[.int .i64 (if b then x else 0), .bool b]) ∧ Below w.heap.size w w' := by
  have CN := hide cN
  have CT := hide cT
  have hb' : t.toList = s.toList ↔ b = true := by rw [← hb]; simp
  clear cN cT
  cases b
  all_goals
    simp only [Bool.false_eq_true, iff_false, iff_true] at hb'
    go_enter Tryd.func12, Tryd.ntmps12
    go_wp2_with (first | (go_at_call 14; refine CN.out.mono ?_; rintro r w1 ⟨rfl, hb1⟩) | (go_at_call 9; refine (CT.out _ hb1).mono ?_; rintro r w2 ⟨rfl, hb2⟩))
    go_ret2
    exact ⟨rfl, hb1.trans (hb2.mono hb1.size)⟩

def parB (l : List UInt8) : Bool := decide ((nearP l).2 = 0) && (textL (nearP l).1 == l)
def parV (l : List UInt8) : Int := if parB l then (nearP l).1 else 0
theorem nearP_in (l : List UInt8) (h : (nearP l).2 = 0) : inB (nearP l).1 = true := by
  unfold nearP at *
  split at h
  · simp at h
  · rename_i h1
    split at h
    · simp at h
    · rename_i h2
      split at h
      · rename_i h3
        rw [if_neg h1, if_neg h2, if_pos h3]
        exact h3
      · simp at h
theorem parse_any (s : ByteArray) (w : World) (hg : Glo w) :
    Calls Tryd.prog 12 #[.string s] w fun r w' => r = .returned (.tuple #[.int .i64 (parV s.data.toList), .bool (parB s.data.toList)]) ∧ Below w.heap.size w w' := by
  have cN := near_any s w hg
  unfold parV parB
  by_cases h : (nearP s.data.toList).2 = 0
  · have hin := nearP_in _ h
    rw [h] at cN
    refine (parse_core s ⟨(textL (nearP s.data.toList).1).toArray⟩ _ _ w rfl cN ?_).mono ?_
    · intro w1 hb
      have := text_any (nearP s.data.toList).1 w1 (hg.below hb)
      unfold textV at this
      rwa [hin, if_pos rfl] at this
    · rintro r w' ⟨rfl, hb⟩
      refine ⟨?_, hb⟩
      rw [ByteArray.toList_eq, ByteArray.toList_eq, h]
      simp
  · refine (parse_bad s _ _ w (by simpa using h) cN).mono ?_
    rintro r w' ⟨rfl, hb⟩
    refine ⟨?_, hb⟩
    rw [decide_eq_false h]
    simp
end Go.Proofs.YtdmfmiejjghfnaaDoor
