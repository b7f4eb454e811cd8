/-
  What cmap's segmentOf and segment.glyph answer.
-/
import Derived.Test.YtkmmphpaaahajaaC11Ro
namespace Go.Proofs.Ytkmmphpaaahajaa
open Go.RowKit Go.Deep
set_option linter.unusedVariables false
set_option linter.unusedSimpArgs false

set_option maxRecDepth 8000 in
set_option maxHeartbeats 1000000 in
theorem seg_any (s : ByteArray) (m i : Nat) (w : World) (hs : s.size ≤ 1073741824) (hm : 16 + 8 * m ≤ s.size) (hi : i < m) :
    Calls Try.prog 53 #[.string s, .int .i64 (m : Int), .int .i64 (i : Int)] w fun e w' => e = .returned (.agg #[.int .i64 (sa s.data.toList m i : Int), .int .i64 (sb s.data.toList i : Int), .int .i64 (sdl s.data.toList m i : Int), .int .i64 (sof s.data.toList m i : Int), .int .i64 (spl m i : Int)]) ∧ Below w.heap.size w w' := by
  have CT := hide (fun (j : Nat) (z : Int) (w : World) (hz : z = (j : Int)) (h : j + 2 ≤ s.size) => two_any s j z w hz h hs)
  have C1 := hide (fun z w (hz : z = ((16 + 2 * m + 2 * i : Nat) : Int)) => CT.out _ z w hz (by omega))
  have C2 := hide (fun z w (hz : z = ((14 + 2 * i : Nat) : Int)) => CT.out _ z w hz (by omega))
  have C3 := hide (fun z w (hz : z = ((16 + 4 * m + 2 * i : Nat) : Int)) => CT.out _ z w hz (by omega))
  have C4 := hide (fun z w (hz : z = ((16 + 6 * m + 2 * i : Nat) : Int)) => CT.out _ z w hz (by omega))
  have hp : ((spl m i : Nat) : Int) = 14 + 2 * (i : Int) + 2 * (m : Int) + 2 + 2 * (m : Int) + 2 * (m : Int) := by unfold spl; omega
  rw [hp]
  have e1 : n2 s.data.toList (16 + 2 * m + 2 * i) = sa s.data.toList m i := rfl
  have e2 : n2 s.data.toList (14 + 2 * i) = sb s.data.toList i := rfl
  have e3 : n2 s.data.toList (16 + 4 * m + 2 * i) = sdl s.data.toList m i := rfl
  have e4 : n2 s.data.toList (16 + 6 * m + 2 * i) = sof s.data.toList m i := rfl
  rw [e1] at C1
  rw [e2] at C2
  rw [e3] at C3
  rw [e4] at C4
  generalize ((sa s.data.toList m i : Nat) : Int) = A at *
  generalize ((sb s.data.toList i : Nat) : Int) = B at *
  generalize ((sdl s.data.toList m i : Nat) : Int) = D at *
  generalize ((sof s.data.toList m i : Nat) : Int) = O at *
  have i0 : (0 : Int) ≤ (i : Int) := by omega
  have i1 : (i : Int) ≤ 1073741824 := by omega
  have m0 : (0 : Int) ≤ (m : Int) := by omega
  have m1 : (m : Int) ≤ 1073741824 := by omega
  clear e1 e2 e3 e4 hp hi hm
  go_enter Try.func53, Try.ntmps53
  go_wp2_with fail
  refine (C1.out _ _ (by omega)).mono ?_
  rintro e w1 ⟨rfl, n1, hw⟩
  subst hw
  go_wp2_with fail
  refine (C2.out _ _ (by omega)).mono ?_
  rintro e w1 ⟨rfl, n2, hw⟩
  subst hw
  go_wp2_with fail
  refine (C3.out _ _ (by omega)).mono ?_
  rintro e w1 ⟨rfl, n3, hw⟩
  subst hw
  go_wp2_with fail
  refine (C4.out _ _ (by omega)).mono ?_
  rintro e w1 ⟨rfl, n4, hw⟩
  subst hw
  go_wp2_with fail
  refine bodyPost_ret (v := .agg #[.int .i64 A, .int .i64 B, .int .i64 D, .int .i64 O, .int .i64 (14 + 2 * (i : Int) + 2 * (m : Int) + 2 + 2 * (m : Int) + 2 * (m : Int))]) (by simp [results, Try.results53, go_sem]) rfl ⟨rfl, (((((below_drewN ((Below.refl w.heap.size w).alloc (Nat.le_refl _) _) _).setCell (p := ⟨w.heap.size, 0, none⟩) (Nat.le_refl _) _).setCell (p := ⟨w.heap.size, 1, none⟩) (Nat.le_refl _) _).setCell (p := ⟨w.heap.size, 2, none⟩) (Nat.le_refl _) _).setCell (p := ⟨w.heap.size, 3, none⟩) (Nat.le_refl _) _).setCell (p := ⟨w.heap.size, 4, none⟩) (Nat.le_refl _) _⟩
/- where a code goes -/
def glW (l : List UInt8) (a d o p c : Nat) : Option Nat :=
  if o = 0 then some ((c + d) % 65536) else
  if o % 2 ≠ 0 ∨ l.length < p + o + 2 * (c - a) + 2 then none else
  if n2 l (p + o + 2 * (c - a)) = 0 then some 0 else
  some ((n2 l (p + o + 2 * (c - a)) + d) % 65536)
theorem glV_eq (s : List UInt8) (m i c : Nat) : glV s m i c = glW s (sa s m i) (sdl s m i) (sof s m i) (spl m i) c := rfl
def GlR (w : World) (R : Option Nat) (e : Ending) (w' : World) : Prop := match R with
  | some g => e = .returned (.tuple #[.int .i64 (g : Int), .bool true]) ∧ Below w.heap.size w w'
  | none => e = .returned (.tuple #[.int .i64 0, .bool false]) ∧ Below w.heap.size w w'
set_option maxRecDepth 8000 in
set_option maxHeartbeats 1000000 in
theorem gly_any (s : ByteArray) (a b d o p c : Nat) (w : World) (hs : s.size ≤ 1073741824) (hd : d ≤ 65535) (ho : o ≤ 65535) (hp : p ≤ 1073741824) (hc : c ≤ 65535) (ha : a ≤ c) :
    Calls Try.prog 58 #[.agg #[.int .i64 (a : Int), .int .i64 (b : Int), .int .i64 (d : Int), .int .i64 (o : Int), .int .i64 (p : Int)], .string s, .int .i64 (c : Int)] w (GlR w (glW s.data.toList a d o p c)) := by
  have HB := hide ((Below.refl w.heap.size w).alloc (Nat.le_refl _) (.cells #[.int .i64 (a : Int), .int .i64 (b : Int), .int .i64 (d : Int), .int .i64 (o : Int), .int .i64 (p : Int)] 76))
  have hs' : (s.size : Int) ≤ 1073741824 := by omega
  have a0 : (0 : Int) ≤ (a : Int) := by omega
  have a1 : (a : Int) ≤ (c : Int) := by omega
  have c0' : (0 : Int) ≤ (c : Int) := by omega
  have c1' : (c : Int) ≤ 65535 := by omega
  have d0 : (0 : Int) ≤ (d : Int) := by omega
  have d1 : (d : Int) ≤ 65535 := by omega
  have o0 : (0 : Int) ≤ (o : Int) := by omega
  have o1 : (o : Int) ≤ 65535 := by omega
  have p0 : (0 : Int) ≤ (p : Int) := by omega
  have p1 : (p : Int) ≤ 1073741824 := by omega
  by_cases h1 : o = 0
  · have hv : glW s.data.toList a d o p c = some ((c + d) % 65536) := by unfold glW; rw [if_pos h1]
    rw [hv]
    obtain ⟨Y, hY⟩ : ∃ Y, (c + d) % 65536 = Y := ⟨_, rfl⟩
    rw [hY]
    have q1 : ((c : Int) + (d : Int)) % 65536 = (Y : Int) := by omega
    have q2 : ((c : Int) + (d : Int)).tmod 65536 = (Y : Int) := by rw [Int.tmod_eq_emod_of_nonneg (by omega)]; exact q1
    have t1 : ((o : Int) == 0) = true := by simp; omega
    clear hv hY h1 hd ho hp hc ha hs
    go_enter Try.func58, Try.ntmps58
    go_wp2_with fail
    go_ret2
    exact ⟨rfl, HB.out⟩
  have t1 : ((o : Int) == 0) = false := by simp; omega
  by_cases h2 : o % 2 = 0
  case neg =>
    have hv : glW s.data.toList a d o p c = none := by unfold glW; rw [if_neg h1, if_pos (Or.inl h2)]
    rw [hv]
    have q1 : ((o : Int)) % 2 = 1 := by omega
    have q2 : ((o : Int)).tmod 2 = 1 := by rw [Int.tmod_eq_emod_of_nonneg (by omega)]; exact q1
    clear hv h1 h2 hd ho hp hc ha hs
    go_enter Try.func58, Try.ntmps58
    go_wp2_with fail
    go_ret2
    exact ⟨rfl, HB.out⟩
  have q1 : ((o : Int)) % 2 = 0 := by omega
  have q2 : ((o : Int)).tmod 2 = 0 := by rw [Int.tmod_eq_emod_of_nonneg (by omega)]; exact q1
  by_cases h3 : s.size < p + o + 2 * (c - a) + 2
  · have hv : glW s.data.toList a d o p c = none := by unfold glW; rw [if_neg h1, if_pos (Or.inr (by rw [← Lib.size_eq]; exact h3))]
    rw [hv]
    have t3 : (s.size : Int) < (p : Int) + (o : Int) + 2 * ((c : Int) - (a : Int)) + 2 := by omega
    clear hv h1 h2 h3 hd ho hp hc ha hs
    go_enter Try.func58, Try.ntmps58
    go_wp2_with fail
    go_ret2
    exact ⟨rfl, HB.out⟩
  have t3 : ¬ (s.size : Int) < (p : Int) + (o : Int) + 2 * ((c : Int) - (a : Int)) + 2 := by omega
  have C := hide (fun z w (hz : z = ((p + o + 2 * (c - a) : Nat) : Int)) => two_any s (p + o + 2 * (c - a)) z w hz (by omega) hs)
  have hv : glW s.data.toList a d o p c = if n2 s.data.toList (p + o + 2 * (c - a)) = 0 then some 0 else some ((n2 s.data.toList (p + o + 2 * (c - a)) + d) % 65536) := by
    unfold glW
    rw [if_neg h1, if_neg]
    rintro (h | h)
    · exact h h2
    · rw [← Lib.size_eq] at h; exact h3 h
  have bt := n2_lt s.data.toList (p + o + 2 * (c - a))
  rw [hv]
  have HZ : Hid ((p : Int) + (o : Int) + 2 * ((c : Int) - (a : Int)) = ((p + o + 2 * (c - a) : Nat) : Int)) := hide (by omega)
  generalize n2 s.data.toList (p + o + 2 * (c - a)) = G at *
  by_cases h4 : G = 0
  · rw [if_pos h4]
    subst h4
    clear hv h1 h2 h3 hd ho hp hc ha hs bt
    go_enter Try.func58, Try.ntmps58
    go_wp2_with fail
    refine (C.out _ _ HZ.out).mono ?_
    rintro e w1 ⟨rfl, m, hw⟩
    subst hw
    go_wp2_with fail
    go_ret2
    exact ⟨rfl, below_drewN HB.out _⟩
  · rw [if_neg h4]
    obtain ⟨Y, hY⟩ : ∃ Y, (G + d) % 65536 = Y := ⟨_, rfl⟩
    rw [hY]
    have r1 : ((G : Int) + (d : Int)) % 65536 = (Y : Int) := by omega
    have r2 : ((G : Int) + (d : Int)).tmod 65536 = (Y : Int) := by rw [Int.tmod_eq_emod_of_nonneg (by omega)]; exact r1
    have t4 : ((G : Int) == 0) = false := by simp; omega
    have g0 : (0 : Int) ≤ (G : Int) := by omega
    have g1 : (G : Int) ≤ 65535 := by omega
    clear hv h1 h2 h3 hd ho hp hc ha hs bt h4 hY
    go_enter Try.func58, Try.ntmps58
    go_wp2_with fail
    refine (C.out _ _ HZ.out).mono ?_
    rintro e w1 ⟨rfl, m, hw⟩
    subst hw
    have hz := Blk.drewN (Blk.new w #[.int .i64 (a : Int), .int .i64 (b : Int), .int .i64 (d : Int), .int .i64 (o : Int), .int .i64 (p : Int)] 76) m
    go_wp2_with fail
    go_ret2
    exact ⟨rfl, below_drewN HB.out _⟩
end Go.Proofs.Ytkmmphpaaahajaa
