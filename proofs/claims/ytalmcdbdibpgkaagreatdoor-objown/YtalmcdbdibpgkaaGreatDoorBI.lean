/-
  Joined: E2Near, E2NearP, E2Parse, E2Back.
-/
import Derived.Test.YtalmcdbdibpgkaaGreatDoorBE
import Derived.Deep.Draws
import Derived.WalkSmall
/-
  What digits.Near answers.
-/
namespace Go.Proofs.YtalmcdbdibpgkaaGreatDoor.D2
set_option maxRecDepth 8000
open Go.RowKit Go.Lib

theorem near_long (s : ByteArray) (w : World) (h : (40 : Int) < (s.size : Int)) :
    Calls Tryz.prog 96 #[.string s] w fun e w' => e = .returned (.tuple #[.int .i64 0, .int .i64 2]) ∧ w' = w := by
  go_enter Tryz.func96, Tryz.ntmps96
  go_wp2
  go_ret2
  exact ⟨rfl, rfl⟩

structure NearC (s nb wh fr : ByteArray) (below pt : Bool) (w : World) : Prop where
  c1 : Calls Tryz.prog 112 #[.string s, .string ⟨#[45]⟩] w fun e w' => e = .returned (.tuple #[.string nb, .bool below]) ∧ w' = w
  c2 : Calls Tryz.prog 113 #[.string nb, .string ⟨#[46]⟩] w fun e w' => e = .returned (.tuple #[.string wh, .string fr, .bool pt]) ∧ ∃ n, w' = w.drewN n
  c3 : ∀ x w, x = wh ∨ x = fr → Calls Tryz.prog 114 #[.string x] w fun e w' => e = .returned (.bool (digs x.data.toList)) ∧ w' = w

set_option maxHeartbeats 1000000 in
theorem near_bad (s nb wh fr : ByteArray) (below pt : Bool) (w : World) (h : ¬ (40 : Int) < (s.size : Int)) (C : NearC s nb wh fr below pt w) (hbad : digs wh.data.toList = false ∨ (digs wh.data.toList = true ∧ pt = true ∧ digs fr.data.toList = false)) :
    Calls Tryz.prog 96 #[.string s] w fun e w' => e = .returned (.tuple #[.int .i64 0, .int .i64 20]) ∧ Below w.heap.size w w' := by
  have HC := hide C
  clear C
  rcases hbad with fw | ⟨fw, rfl, ff⟩
  all_goals
    go_enter Tryz.func96, Tryz.ntmps96
    go_wp2_with (first | (go_at_call 112; refine HC.out.c1.mono ?_; rintro e w' ⟨rfl, hw⟩; rw [hw]; clear hw) | (go_at_call 113; refine HC.out.c2.mono ?_; rintro e w' ⟨rfl, n, hw⟩; rw [hw]; clear hw) | (go_at_call 114; refine (HC.out.c3 _ _ (by first | exact Or.inl rfl | exact Or.inr rfl)).mono ?_; rintro e w' ⟨rfl, hw⟩; rw [hw]; clear hw; first | rw [fw] | rw [ff]))
    go_ret2
    exact ⟨rfl, below_drewN (Below.refl _ _) n⟩

set_option maxHeartbeats 1000000 in
theorem near_over (s nb wh fr t : ByteArray) (below pt : Bool) (w : World) (h : ¬ (40 : Int) < (s.size : Int)) (C : NearC s nb wh fr below pt w) (fw : digs wh.data.toList = true) (hok : pt = false ∨ (pt = true ∧ digs fr.data.toList = true))
    (c5 : ∀ w, Calls Tryz.prog 115 #[.string wh, .string ⟨#[48]⟩] w fun e w' => e = .returned (.string t) ∧ w' = w) (ht : (8 : Int) < (t.size : Int)) :
    Calls Tryz.prog 96 #[.string s] w fun e w' => e = .returned (.tuple #[.int .i64 0, .int .i64 3]) ∧ Below w.heap.size w w' := by
  have HC := hide C
  have C5 := hide c5
  clear C c5
  rcases hok with rfl | ⟨rfl, ff⟩
  all_goals
    go_enter Tryz.func96, Tryz.ntmps96
    go_wp2_with (first | (go_at_call 112; refine HC.out.c1.mono ?_; rintro e w' ⟨rfl, hw⟩; rw [hw]; clear hw) | (go_at_call 113; refine HC.out.c2.mono ?_; rintro e w' ⟨rfl, n, hw⟩; rw [hw]; clear hw) | (go_at_call 114; refine (HC.out.c3 _ _ (by first | exact Or.inl rfl | exact Or.inr rfl)).mono ?_; rintro e w' ⟨rfl, hw⟩; rw [hw]; clear hw; first | rw [fw] | rw [ff]) | (go_at_call 115; refine (C5.out _).mono ?_; rintro e w' ⟨rfl, hw⟩; rw [hw]; clear hw))
    go_ret2
    exact ⟨rfl, below_drewN (Below.refl _ _) n⟩

set_option maxHeartbeats 1000000 in
theorem near_good (s nb wh fr t : ByteArray) (below pt : Bool) (w : World) (h : ¬ (40 : Int) < (s.size : Int)) (C : NearC s nb wh fr below pt w) (fw : digs wh.data.toList = true) (hok : pt = false ∨ (pt = true ∧ digs fr.data.toList = true))
    (c5 : ∀ w, Calls Tryz.prog 115 #[.string wh, .string ⟨#[48]⟩] w fun e w' => e = .returned (.string t) ∧ w' = w) (ht : ¬ (8 : Int) < (t.size : Int))
    (W X : Nat) (hW : (W : Int) ≤ 99999999) (hX : (X : Int) ≤ 65536)
    (c6 : ∀ w, Calls Tryz.prog 116 #[.string t] w fun e w' => e = .returned (.int .i64 W) ∧ w' = w)
    (c7 : ∀ w, Calls Tryz.prog 117 #[.string fr, .bool below] w fun e w' => e = .returned (.int .i64 X) ∧ Below w.heap.size w w')
    (V : Int) (hV : V = if below then -((W : Int) * 65536 + (X : Int)) else (W : Int) * 65536 + (X : Int)) :
    Calls Tryz.prog 96 #[.string s] w fun e w' => e = .returned (if inB V then .tuple #[.int .i64 V, .int .i64 0] else .tuple #[.int .i64 0, .int .i64 3]) ∧ Below w.heap.size w w' := by
  have HC := hide C
  have C5 := hide c5
  have C6 := hide c6
  have C7 := hide c7
  clear C c5 c6 c7
  cases below
  · obtain rfl : V = (W : Int) * 65536 + (X : Int) := by rw [hV]; rfl
    clear hV
    cases hi : inB ((W : Int) * 65536 + (X : Int))
    all_goals
      rcases hok with rfl | ⟨rfl, ff⟩
      all_goals
        go_enter Tryz.func96, Tryz.ntmps96
        go_wp2_with (first | (go_at_call 112; refine HC.out.c1.mono ?_; rintro e w' ⟨rfl, hw⟩; rw [hw]; clear hw) | (go_at_call 113; refine HC.out.c2.mono ?_; rintro e w' ⟨rfl, n, hw⟩; rw [hw]; clear hw) | (go_at_call 114; refine (HC.out.c3 _ _ (by first | exact Or.inl rfl | exact Or.inr rfl)).mono ?_; rintro e w' ⟨rfl, hw⟩; rw [hw]; clear hw; first | rw [fw] | rw [ff]) | (go_at_call 115; refine (C5.out _).mono ?_; rintro e w' ⟨rfl, hw⟩; rw [hw]; clear hw) | (go_at_call 116; refine (C6.out _).mono ?_; rintro e w' ⟨rfl, hw⟩; rw [hw]; clear hw) | (go_at_call 117; refine (C7.out _).mono ?_; rintro e w2 ⟨rfl, hb⟩) | (go_at_call 61; refine (in_any _ _).mono ?_; rintro e w' ⟨rfl, hw⟩; rw [hw]; clear hw))
        go_ret2
        exact ⟨rfl, (below_drewN (Below.refl _ _) n).trans hb⟩
  · obtain rfl : V = -((W : Int) * 65536 + (X : Int)) := by rw [hV]; rfl
    clear hV
    cases hi : inB (-((W : Int) * 65536 + (X : Int)))
    all_goals
      rcases hok with rfl | ⟨rfl, ff⟩
      all_goals
        go_enter Tryz.func96, Tryz.ntmps96
        go_wp2_with (first | (go_at_call 112; refine HC.out.c1.mono ?_; rintro e w' ⟨rfl, hw⟩; rw [hw]; clear hw) | (go_at_call 113; refine HC.out.c2.mono ?_; rintro e w' ⟨rfl, n, hw⟩; rw [hw]; clear hw) | (go_at_call 114; refine (HC.out.c3 _ _ (by first | exact Or.inl rfl | exact Or.inr rfl)).mono ?_; rintro e w' ⟨rfl, hw⟩; rw [hw]; clear hw; first | rw [fw] | rw [ff]) | (go_at_call 115; refine (C5.out _).mono ?_; rintro e w' ⟨rfl, hw⟩; rw [hw]; clear hw) | (go_at_call 116; refine (C6.out _).mono ?_; rintro e w' ⟨rfl, hw⟩; rw [hw]; clear hw) | (go_at_call 117; refine (C7.out _).mono ?_; rintro e w2 ⟨rfl, hb⟩) | (go_at_call 61; refine (in_any _ _).mono ?_; rintro e w' ⟨rfl, hw⟩; rw [hw]; clear hw))
        go_ret2
        exact ⟨rfl, (below_drewN (Below.refl _ _) n).trans hb⟩
end Go.Proofs.YtalmcdbdibpgkaaGreatDoor.D2
/-
  What digits.Near answers of any text.
-/
namespace Go.Proofs.YtalmcdbdibpgkaaGreatDoor.D2
set_option maxRecDepth 8000
open Go.RowKit Go.Lib

def negP (l : List UInt8) : Bool := hasPrefix l [45]
def numP (l : List UInt8) : List UInt8 := trimPrefix l [45]
def whP (l : List UInt8) : List UInt8 := (cut (numP l) [46]).1
def frP (l : List UInt8) : List UInt8 := (cut (numP l) [46]).2.1
def ptP (l : List UInt8) : Bool := (cut (numP l) [46]).2.2
def okP (l : List UInt8) : Bool := digs (whP l) && (!ptP l || digs (frP l))
def magP (l : List UInt8) : Nat := val (whP l) * 65536 + nUp (negP l) (frP l)
def sgnP (l : List UInt8) : Int := if negP l then -(magP l : Int) else (magP l : Int)
def nearP (l : List UInt8) : Int × Int := if 40 < l.length then (0, 2) else if okP l = false then (0, 20) else if inB (sgnP l) then (sgnP l, 0) else (0, 3)

theorem numP_len (l : List UInt8) : (numP l).length ≤ l.length := by
  unfold numP trimPrefix
  split
  · simp
  · omega
theorem cut_len (l s : List UInt8) : (cut l s).1.length ≤ l.length ∧ (cut l s).2.1.length ≤ l.length := by
  unfold cut
  split
  · simp
    omega
  · simp
theorem cut_none (l s : List UInt8) (h : (cut l s).2.2 = false) : (cut l s).2.1 = [] := by
  unfold cut at *
  split at h
  · simp at h
  · rename_i h'
    rw [if_neg h']
theorem digs_all (l : List UInt8) (h : digs l = true) : l.all isDig = true := by
  unfold digs at h
  simp only [Bool.and_eq_true] at h
  exact h.1
theorem frP_all (l : List UInt8) (h : okP l = true) : (frP l).all isDig = true := by
  unfold okP at h
  simp only [Bool.and_eq_true, Bool.or_eq_true, Bool.not_eq_true'] at h
  rcases h.2 with h | h
  · unfold frP; rw [cut_none _ _ h]; rfl
  · exact digs_all _ h
theorem trim_val (l : List UInt8) : val (trimLeftB l 48) = val l := by
  unfold trimLeftB
  induction l with
  | nil => rfl
  | cons c l ih =>
    rw [List.dropWhile_cons]
    split
    · rename_i h
      have : c = 48 := by simpa using h
      rw [ih, val_cons, this]
      simp [dv]
    · rfl
theorem trim_all (l : List UInt8) (h : l.all isDig = true) : (trimLeftB l 48).all isDig = true := by
  unfold trimLeftB
  rw [List.all_eq_true] at h ⊢
  intro x hx
  exact h x ((List.dropWhile_sublist _).subset hx)
theorem trim_great (l : List UInt8) (h : l.all isDig = true) (h8 : 8 < (trimLeftB l 48).length) : 100000000 ≤ val l := by
  rw [← trim_val l]
  have ha := trim_all l h
  have hne : ∀ r, trimLeftB l 48 ≠ 48 :: r := by
    unfold trimLeftB
    clear h h8 ha
    induction l with
    | nil => simp
    | cons c l ih =>
      intro r
      rw [List.dropWhile_cons]
      split
      · exact ih r
      · rename_i hc
        intro e
        simp at e
        simp [e.1] at hc
  generalize trimLeftB l 48 = t at *
  cases t with
  | nil => simp at h8
  | cons c r =>
    simp only [List.all_cons, Bool.and_eq_true] at ha
    have h1 := dv_le c ha.1
    have h0 : 1 ≤ dv c := by
      rcases Nat.eq_zero_or_pos (dv c) with h0 | h0
      · exfalso
        apply hne r
        congr 1
        apply UInt8.toNat_inj.1
        show c.toNat = 48
        omega
      · exact h0
    rw [val_cons]
    have h2 : 10 ^ 8 ≤ 10 ^ r.length := Nat.pow_le_pow_right (by decide) (by simp at h8; omega)
    have h3 : 1 * 10 ^ r.length ≤ dv c * 10 ^ r.length := Nat.mul_le_mul_right _ h0
    omega

theorem nearc (s : ByteArray) (w : World) (hg : Glo w) (h : s.size ≤ 40) :
    NearC s ⟨(numP s.data.toList).toArray⟩ ⟨(whP s.data.toList).toArray⟩ ⟨(frP s.data.toList).toArray⟩ (negP s.data.toList) (ptP s.data.toList) w := by
  obtain ⟨m, hm⟩ := hg.max
  have h1 := numP_len s.data.toList
  have h2 := cut_len (numP s.data.toList) [46]
  rw [size_list] at h1
  refine ⟨Any.strings_CutPrefix lays103 s ⟨#[45]⟩ w, Any.strings_Cut lays145 ⟨(numP s.data.toList).toArray⟩ ⟨#[46]⟩ m w (by rw [size_mk]; omega) hm, ?_⟩
  intro x w hx
  refine alld_any x w ?_
  rcases hx with rfl | rfl
  · rw [size_mk]; unfold whP; omega
  · rw [size_mk]; unfold frP; omega

theorem near_any (s : ByteArray) (w : World) (hg : Glo w) :
    Calls Tryz.prog 96 #[.string s] w fun e w' => e = .returned (.tuple #[.int .i64 (nearP s.data.toList).1, .int .i64 (nearP s.data.toList).2]) ∧ Below w.heap.size w w' := by
  have hl := size_list s
  unfold nearP
  rw [hl]
  by_cases h40 : 40 < s.size
  · rw [if_pos h40]
    refine (near_long s w (by omega)).mono ?_
    rintro e w' ⟨rfl, rfl⟩
    exact ⟨rfl, Below.refl _ _⟩
  rw [if_neg h40]
  have C := nearc s w hg (by omega)
  have h1 := numP_len s.data.toList
  have h2 := cut_len (numP s.data.toList) [46]
  cases hok : okP s.data.toList
  · rw [if_pos rfl]
    refine near_bad s _ _ _ _ _ w (by omega) C ?_
    unfold okP at hok
    rw [Bool.and_eq_false_iff] at hok
    rcases hok with h | h
    · exact Or.inl h
    · rw [Bool.or_eq_false_iff] at h
      cases h3 : digs (whP s.data.toList)
      · exact Or.inl rfl
      · exact Or.inr ⟨rfl, by simpa using h.1, h.2⟩
  rw [if_neg (by simp)]
  have hfr := frP_all _ hok
  have hok2 := hok
  unfold okP at hok2
  simp only [Bool.and_eq_true, Bool.or_eq_true, Bool.not_eq_true'] at hok2
  obtain ⟨k1, k2⟩ := hok2
  have k3 : ptP s.data.toList = false ∨ (ptP s.data.toList = true ∧ digs (frP s.data.toList) = true) := by
    cases hp : ptP s.data.toList
    · exact Or.inl rfl
    · rw [hp] at k2
      rcases k2 with k2 | k2
      · cases k2
      · exact Or.inr ⟨rfl, k2⟩
  have c5 : ∀ w, Calls Tryz.prog 115 #[.string ⟨(whP s.data.toList).toArray⟩, .string ⟨#[48]⟩] w fun e w' => e = .returned (.string ⟨(trimLeftB (whP s.data.toList) 48).toArray⟩) ∧ w' = w :=
    fun w => Any.strings_TrimLeft_one lays161 ⟨(whP s.data.toList).toArray⟩ 48 (by decide) w
  by_cases h8 : 8 < (trimLeftB (whP s.data.toList) 48).length
  · have hgr := trim_great _ (digs_all _ k1) h8
    have hin : inB (sgnP s.data.toList) = false := by
      apply inB_f
      unfold sgnP magP
      split <;> omega
    rw [hin, if_neg (by simp)]
    exact near_over s _ _ _ ⟨(trimLeftB (whP s.data.toList) 48).toArray⟩ _ _ w (by omega) C k1 k3 c5 (by rw [size_mk]; omega)
  · have hv := trim_val (whP s.data.toList)
    have hlt := val_lt _ (trim_all _ (digs_all _ k1))
    have hp : 10 ^ (trimLeftB (whP s.data.toList) 48).length ≤ 10 ^ 8 := Nat.pow_le_pow_right (by decide) (by omega)
    have hn := nUp_le (negP s.data.toList) _ hfr
    rw [hv] at hlt
    have := near_good s _ _ _ ⟨(trimLeftB (whP s.data.toList) 48).toArray⟩ _ _ w (by omega) C k1 k3 c5 (by rw [size_mk]; omega) (val (whP s.data.toList)) (nUp (negP s.data.toList) (frP s.data.toList)) (by omega) (by omega)
      (fun w => by have := whole_any ⟨(trimLeftB (whP s.data.toList) 48).toArray⟩ w (by rw [size_mk]; omega) (trim_all _ (digs_all _ k1)); rwa [hv] at this)
      (fun w => nearest_any ⟨(frP s.data.toList).toArray⟩ (negP s.data.toList) w (by rw [size_mk]; unfold frP; omega) hfr)
      (sgnP s.data.toList) (by unfold sgnP magP; split <;> simp)
    refine this.mono ?_
    rintro e w' ⟨rfl, hb⟩
    refine ⟨?_, hb⟩
    split <;> rfl
end Go.Proofs.YtalmcdbdibpgkaaGreatDoor.D2
/-
  What digits.Parse answers of any text.
-/
namespace Go.Proofs.YtalmcdbdibpgkaaGreatDoor.D2
set_option maxRecDepth 8000
open Go.RowKit Go.Lib

theorem parse_bad (s : ByteArray) (x e : Int) (w : World) (he : (e != 0) = true)
    (cN : Calls Tryz.prog 96 #[.string s] w fun r w' => r = .returned (.tuple #[.int .i64 x, .int .i64 e]) ∧ Below w.heap.size w w') :
    Calls Tryz.prog 78 #[.string s] w fun r w' => r = .returned (.tuple #[.int .i64 0, .bool false]) ∧ Below w.heap.size w w' := by
  have CN := hide cN
  clear cN
  have he' : ¬ e = 0 := by simpa using he
  go_enter Tryz.func78, Tryz.ntmps78
  go_wp2_with (go_at_call 96; refine CN.out.mono ?_; rintro r w1 ⟨rfl, hb⟩)
  go_ret2
  exact ⟨rfl, hb⟩
theorem parse_core (s t : ByteArray) (x : Int) (b : Bool) (w : World) (hb : (t.toList == s.toList) = b)
    (cN : Calls Tryz.prog 96 #[.string s] w fun r w' => r = .returned (.tuple #[.int .i64 x, .int .i64 0]) ∧ Below w.heap.size w w')
    (cT : ∀ w1, Below w.heap.size w w1 → Calls Tryz.prog 31 #[.int .i64 x] w1 fun r w' => r = .returned (.tuple #[.string t, .bool true]) ∧ Below w1.heap.size w1 w') :
    Calls Tryz.prog 78 #[.string s] w fun r w' => r = .returned (.tuple #[.int .i64 (if b then x else 0), .bool b]) ∧ Below w.heap.size w w' := by
  have CN := hide cN
  have CT := hide cT
  have hb' : t.toList = s.toList ↔ b = true := by rw [← hb]; simp
  clear cN cT
  cases b
  all_goals
    simp only [Bool.false_eq_true, iff_false, iff_true] at hb'
    go_enter Tryz.func78, Tryz.ntmps78
    go_wp2_with (first | (go_at_call 96; refine CN.out.mono ?_; rintro r w1 ⟨rfl, hb1⟩) | (go_at_call 31; refine (CT.out _ hb1).mono ?_; rintro r w2 ⟨rfl, hb2⟩))
    go_ret2
    exact ⟨rfl, hb1.trans (hb2.mono hb1.size)⟩

def parB (l : List UInt8) : Bool := decide ((nearP l).2 = 0) && (textL (nearP l).1 == l)
def parV (l : List UInt8) : Int := if parB l then (nearP l).1 else 0
theorem nearP_in (l : List UInt8) (h : (nearP l).2 = 0) : inB (nearP l).1 = true := by
  unfold nearP at *
  split at h
  · simp at h
  · rename_i h1
    split at h
    · simp at h
    · rename_i h2
      split at h
      · rename_i h3
        rw [if_neg h1, if_neg h2, if_pos h3]
        exact h3
      · simp at h
theorem parse_any (s : ByteArray) (w : World) (hg : Glo w) :
    Calls Tryz.prog 78 #[.string s] w fun r w' => r = .returned (.tuple #[.int .i64 (parV s.data.toList), .bool (parB s.data.toList)]) ∧ Below w.heap.size w w' := by
  have cN := near_any s w hg
  unfold parV parB
  by_cases h : (nearP s.data.toList).2 = 0
  · have hin := nearP_in _ h
    rw [h] at cN
    refine (parse_core s ⟨(textL (nearP s.data.toList).1).toArray⟩ _ _ w rfl cN ?_).mono ?_
    · intro w1 hb
      have := text_any (nearP s.data.toList).1 w1 (hg.below hb)
      unfold textV at this
      rwa [hin, if_pos rfl] at this
    · rintro r w' ⟨rfl, hb⟩
      refine ⟨?_, hb⟩
      rw [ByteArray.toList_eq, ByteArray.toList_eq, h]
      simp
  · refine (parse_bad s _ _ w (by simpa using h) cN).mono ?_
    rintro r w' ⟨rfl, hb⟩
    refine ⟨?_, hb⟩
    rw [decide_eq_false h]
    simp
end Go.Proofs.YtalmcdbdibpgkaaGreatDoor.D2
/-
  What Text writes is read as it was.
-/
namespace Go.Proofs.YtalmcdbdibpgkaaGreatDoor.D2
set_option maxRecDepth 8000
open Go.RowKit Go.Lib

theorem dec_more' (u : Nat) (h : ¬ u < 10) : decDigits u = decDigits (u / 10) ++ [dgB (u % 10)] := by
  rw [decDigits, dif_neg h]
  rfl
theorem dec_one' (u : Nat) (h : u < 10) : decDigits u = [dgB u] := decDigits_one h
theorem dec_spec (u : Nat) : (decDigits u).all isDig = true ∧ val (decDigits u) = u := by
  induction u using Nat.strongRecOn with
  | _ u ih =>
    by_cases h : u < 10
    · rw [dec_one' u h]
      refine ⟨by simp [(dgB_dig u h).1], ?_⟩
      rw [show [dgB u] = [] ++ [dgB u] from rfl, val_snoc, (dgB_dig u h).2]
      simp [val]
    · obtain ⟨h1, h2⟩ := ih (u / 10) (by omega)
      rw [dec_more' u h]
      have hd := dgB_dig (u % 10) (by omega)
      refine ⟨by rw [List.all_append, h1]; simp [hd.1], ?_⟩
      rw [val_snoc, h2, hd.2]
      omega
theorem fdig_spec (f r : Nat) (hf : f ≤ 16) (hr : r < 65536) (h2 : 2 ^ (16 - f) ∣ r) : (fdig f r).all isDig = true ∧ val (fdig f r) * 65536 = r * 10 ^ (fdig f r).length := by
  induction f generalizing r with
  | zero =>
    obtain ⟨c, hc⟩ := h2
    have : r = 0 := by
      rcases Nat.eq_zero_or_pos c with h | h
      · rw [hc, h]
      · have := Nat.mul_le_mul_left (2 ^ (16 - 0)) h
        omega
    rw [this]
    simp [fdig, val]
  | succ f ih =>
    unfold fdig
    by_cases h0 : r = 0
    · rw [if_pos h0, h0]
      simp [val]
    · rw [if_neg h0]
      obtain ⟨c, hc⟩ := h2
      have d2 : 2 ^ (16 - f) ∣ r * 10 % 65536 := by
        have d1 : 2 ^ (16 - f) ∣ r * 10 := ⟨c * 5, by rw [hc, show 16 - f = (16 - (f + 1)) + 1 by omega, Nat.pow_succ, show (10 : Nat) = 2 * 5 from rfl, Nat.mul_assoc (2 ^ (16 - (f + 1))) 2, Nat.mul_assoc (2 ^ (16 - (f + 1))) c]; congr 1; omega⟩
        have d3 : 2 ^ (16 - f) ∣ 65536 := by
          rw [show (65536 : Nat) = 2 ^ 16 from rfl]
          exact Nat.pow_dvd_pow 2 (by omega)
        exact (Nat.dvd_mod_iff d3).2 d1
      obtain ⟨i1, i2⟩ := ih (r * 10 % 65536) (by omega) (by omega) d2
      have hd := dgB_dig (r * 10 / 65536) (by omega)
      refine ⟨by rw [List.all_cons, hd.1, i1]; rfl, ?_⟩
      rw [val_cons, hd.2, List.length_cons, Nat.pow_succ, Nat.add_mul, i2]
      generalize 10 ^ (fdig f (r * 10 % 65536)).length = T
      have e1 : r * 10 / 65536 * T * 65536 = (r * 10 / 65536 * 65536) * T := by rw [Nat.mul_right_comm]
      have e2 : r * (T * 10) = (r * 10) * T := by rw [Nat.mul_comm T 10, ← Nat.mul_assoc]
      have e3 : r * 10 / 65536 * 65536 + r * 10 % 65536 = r * 10 := Nat.div_add_mod' _ _
      rw [e1, e2, ← Nat.add_mul, e3]
theorem occ_none (s : List UInt8) (h : s.all isDig = true) (i : Nat) : occAt s [46] i = false := by
  unfold occAt
  cases hd : s.drop i with
  | nil => rfl
  | cons c r =>
    have hc : isDig c = true := by
      rw [List.all_eq_true] at h
      exact h c (List.mem_of_mem_drop (by rw [hd]; simp))
    have : c ≠ 46 := by intro e; rw [e] at hc; exact absurd hc (by decide)
    simp [List.isPrefixOf, Ne.symm this]
theorem cut_dig (s : List UInt8) (h : s.all isDig = true) : cut s [46] = (s, [], false) := by
  unfold cut
  rw [index_none (fun j _ => occ_none s h j)]
  rfl
theorem cut_point (s t : List UInt8) (h : s.all isDig = true) : cut (s ++ 46 :: t) [46] = (s, t, true) := by
  have hi : index (s ++ 46 :: t) [46] = s.length := by
    refine index_first (by simp) ?_ ?_
    · unfold occAt; simp [List.isPrefixOf]
    · intro j hj
      unfold occAt
      rw [List.drop_append_of_le_length (by omega)]
      have := occ_none s h j
      unfold occAt at this
      have hne : s.drop j ≠ [] := by simp; omega
      cases hd : s.drop j with
      | nil => exact absurd hd hne
      | cons c r =>
        rw [hd] at this
        simpa [List.isPrefixOf] using this
  unfold cut
  rw [hi, if_pos (by omega)]
  simp
theorem head_dig (c : UInt8) (h : isDig c = true) : c ≠ 45 := by intro e; rw [e] at h; exact absurd h (by decide)

/- a sign, digits, and a fraction's digits behind a point, or none -/
def ptF : Option (List UInt8) → List UInt8
  | none => []
  | some fs => 46 :: fs
def numL (ng : Bool) (ds : List UInt8) (fo : Option (List UInt8)) : List UInt8 := (if ng then [45] else []) ++ ds ++ ptF fo
theorem num_parts (ng : Bool) (ds : List UInt8) (fo : Option (List UInt8)) (h1 : ds.all isDig = true) (h0 : ds ≠ []) :
    negP (numL ng ds fo) = ng ∧ whP (numL ng ds fo) = ds ∧ frP (numL ng ds fo) = fo.getD [] ∧ ptP (numL ng ds fo) = fo.isSome := by
  obtain ⟨c, r, e⟩ := List.exists_cons_of_ne_nil h0
  have hc : c ≠ 45 := by
    apply head_dig
    rw [e] at h1
    simp only [List.all_cons, Bool.and_eq_true] at h1
    exact h1.1
  have hneg : negP (numL ng ds fo) = ng := by
    unfold negP numL hasPrefix
    cases ng
    · rw [e]; simp [List.isPrefixOf, Ne.symm hc]
    · simp [List.isPrefixOf]
  have hnum : numP (numL ng ds fo) = ds ++ ptF fo := by
    unfold numP trimPrefix
    rw [show hasPrefix (numL ng ds fo) [45] = ng from hneg]
    cases ng
    · simp [numL]
    · simp [numL]
  have hcut : cut (numP (numL ng ds fo)) [46] = (ds, fo.getD [], fo.isSome) := by
    rw [hnum]
    cases fo with
    | none => rw [show ptF none = [] from rfl, List.append_nil]; exact cut_dig ds h1
    | some fs => exact cut_point ds fs h1
  refine ⟨hneg, ?_, ?_, ?_⟩
  · unfold whP; rw [hcut]
  · unfold frP; rw [hcut]
  · unfold ptP; rw [hcut]
theorem near_num (ng : Bool) (ds : List UInt8) (fo : Option (List UInt8)) (h1 : ds.all isDig = true) (h0 : ds ≠ []) (hf : ∀ fs, fo = some fs → digs fs = true) (hl : (numL ng ds fo).length ≤ 40)
    (X : Int) (hX : X = if ng then -((val ds * 65536 + nUp ng (fo.getD []) : Nat) : Int) else ((val ds * 65536 + nUp ng (fo.getD []) : Nat) : Int)) (hin : inB X = true) : nearP (numL ng ds fo) = (X, 0) := by
  obtain ⟨k1, k2, k3, k4⟩ := num_parts ng ds fo h1 h0
  have hok : okP (numL ng ds fo) = true := by
    unfold okP
    rw [k2, k3, k4]
    have : digs ds = true := by unfold digs; rw [h1]; cases ds; exact absurd rfl h0; rfl
    rw [this]
    cases fo with
    | none => rfl
    | some fs => simp [hf fs rfl]
  have hs : sgnP (numL ng ds fo) = X := by
    unfold sgnP magP
    rw [k1, k2, k3, hX]
  unfold nearP
  rw [if_neg (by omega), hok, if_neg (by simp), hs, hin]
  rfl

theorem textL_num (x : Int) : textL x = numL (decide (x < 0)) (decDigits (x.natAbs / 65536)) (if x.natAbs % 65536 = 0 then none else some (fdig 16 (x.natAbs % 65536))) := by
  unfold textL numL frac ptF
  by_cases h1 : x < 0
  · by_cases h2 : x.natAbs % 65536 = 0
    · simp [h1, h2]
    · simp [h1, h2]
  · by_cases h2 : x.natAbs % 65536 = 0
    · simp [h1, h2]
    · simp [h1, h2]
theorem textL_len (x : Int) (h : inB x = true) : (textL x).length ≤ 26 := by
  have hb := inB_bd h
  have h1 := (dec_len (x.natAbs / 65536) (by omega)).1
  have h2 := fdig_len 16 (x.natAbs % 65536)
  unfold textL frac
  split <;> split <;> simp <;> omega
theorem back_any (x : Int) (h : inB x = true) : nearP (textL x) = (x, 0) := by
  have hlen := textL_len x h
  rw [textL_num] at hlen ⊢
  have hd := dec_spec (x.natAbs / 65536)
  have hne : decDigits (x.natAbs / 65536) ≠ [] := by
    have := (dec_len (x.natAbs / 65536) (by have := inB_bd h; omega)).2
    intro e
    rw [e] at this
    simp at this
  obtain ⟨f1, f2⟩ := fdig_spec 16 (x.natAbs % 65536) (by omega) (by omega) (by simp)
  have hfn : ∀ ng, nUp ng ((if x.natAbs % 65536 = 0 then none else some (fdig 16 (x.natAbs % 65536)) : Option (List UInt8)).getD []) = x.natAbs % 65536 := by
    intro ng
    by_cases h0 : x.natAbs % 65536 = 0
    · rw [if_pos h0, h0]
      exact nUp_nil ng
    · rw [if_neg h0]
      show nUp ng (fdig 16 (x.natAbs % 65536)) = _
      unfold nUp
      have hp : 0 < 10 ^ (fdig 16 (x.natAbs % 65536)).length := Nat.pow_pos (by decide)
      rw [f2, Nat.mul_div_cancel _ hp, Nat.mul_mod_left, if_neg (by omega)]
      rfl
  refine near_num _ _ _ hd.1 hne ?_ (by omega) x ?_ h
  · intro fs e
    by_cases h0 : x.natAbs % 65536 = 0
    · rw [if_pos h0] at e; cases e
    · rw [if_neg h0] at e
      obtain rfl := Option.some.inj e
      unfold digs
      rw [f1]
      unfold fdig
      rw [if_neg h0]
      rfl
  · rw [hfn, hd.2]
    by_cases h0 : x < 0
    · rw [decide_eq_true h0, if_pos rfl]; omega
    · rw [decide_eq_false h0, if_neg (by simp)]; omega
theorem back_parse (x : Int) (h : inB x = true) : parB (textL x) = true ∧ parV (textL x) = x := by
  have hb := back_any x h
  have h1 : parB (textL x) = true := by unfold parB; rw [hb]; simp
  refine ⟨h1, ?_⟩
  unfold parV
  rw [h1, hb]
  rfl
end Go.Proofs.YtalmcdbdibpgkaaGreatDoor.D2
