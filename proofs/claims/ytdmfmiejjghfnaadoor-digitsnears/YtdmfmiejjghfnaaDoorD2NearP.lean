/-
  What digits.Near answers of any text.
-/
import Derived.Test.YtdmfmiejjghfnaaDoorD2Near
namespace Go.Proofs.YtdmfmiejjghfnaaDoor
open Go.RowKit Go.Lib

def negP (l : List UInt8) : Bool := hasPrefix l [45]
def numP (l : List UInt8) : List UInt8 := trimPrefix l [45]
def whP (l : List UInt8) : List UInt8 := (cut (numP l) [46]).1
def frP (l : List UInt8) : List UInt8 := (cut (numP l) [46]).2.1
def ptP (l : List UInt8) : Bool := (cut (numP l) [46]).2.2
def okP (l : List UInt8) : Bool := digs (whP l) && (!ptP l || digs (frP l))
def magP (l : List UInt8) : Nat := val (whP l) * 65536 + nUp (negP l) (frP l)
def sgnP (l : List UInt8) : Int := if negP l then -(magP l : Int) else (magP l : Int)
def nearP (l : List UInt8) : Int × Int := if 40 < l.length then (0, 2) else if okP l = false then (0, 20) else if inB (sgnP l) then (sgnP l, 0) else (0, 3)

theorem numP_len (l : List UInt8) : (numP l).length ≤ l.length := by
  unfold numP trimPrefix
  split
  · simp
  · omega
theorem cut_len (l s : List UInt8) : (cut l s).1.length ≤ l.length ∧ (cut l s).2.1.length ≤ l.length := by
  unfold cut
  split
  · simp
    omega
  · simp
theorem cut_none (l s : List UInt8) (h : (cut l s).2.2 = false) : (cut l s).2.1 = [] := by
  unfold cut at *
  split at h
  · simp at h
  · rename_i h'
    rw [if_neg h']
theorem digs_all (l : List UInt8) (h : digs l = true) : l.all isDig = true := by
  unfold digs at h
  simp only [Bool.and_eq_true] at h
  exact h.1
theorem frP_all (l : List UInt8) (h : okP l = true) : (frP l).all isDig = true := by
  unfold okP at h
  simp only [Bool.and_eq_true, Bool.or_eq_true, Bool.not_eq_true'] at h
  rcases h.2 with h | h
  · unfold frP; rw [cut_none _ _ h]; rfl
  · exact digs_all _ h
theorem trim_val (l : List UInt8) : val (trimLeftB l 48) = val l := by
  unfold trimLeftB
  induction l with
  | nil => rfl
  | cons c l ih =>
    rw [List.dropWhile_cons]
    split
    · rename_i h
      have : c = 48 := by simpa using h
      rw [ih, val_cons, this]
      simp [dv]
    · rfl
theorem trim_all (l : List UInt8) (h : l.all isDig = true) : (trimLeftB l 48).all isDig = true := by
  unfold trimLeftB
  rw [List.all_eq_true] at h ⊢
  intro x hx
  exact h x ((List.dropWhile_sublist _).subset hx)
theorem trim_great (l : List UInt8) (h : l.all isDig = true) (h8 : 8 < (trimLeftB l 48).length) : 100000000 ≤ val l := by
  rw [← trim_val l]
  have ha := trim_all l h
  have hne : ∀ r, trimLeftB l 48 ≠ 48 :: r := by
    unfold trimLeftB
    clear h h8 ha
    induction l with
    | nil => simp
    | cons c l ih =>
      intro r
      rw [List.dropWhile_cons]
      split
      · exact ih r
      · rename_i hc
        intro e
        simp at e
        simp [e.1] at hc
  generalize trimLeftB l 48 = t at *
  cases t with
  | nil => simp at h8
  | cons c r =>
    simp only [List.all_cons, Bool.and_eq_true] at ha
    have h1 := dv_le c ha.1
    have h0 : 1 ≤ dv c := by
      rcases Nat.eq_zero_or_pos (dv c) with h0 | h0
      · exfalso
        apply hne r
        congr 1
        apply UInt8.toNat_inj.1
        show c.toNat = 48
        omega
      · exact h0
    rw [val_cons]
    have h2 : 10 ^ 8 ≤ 10 ^ r.length := Nat.pow_le_pow_right (by decide) (by simp at h8; omega)
    have h3 : 1 * 10 ^ r.length ≤ dv c * 10 ^ r.length := Nat.mul_le_mul_right _ h0
    omega

theorem nearc (s : ByteArray) (w : World) (hg : Glo w) (h : s.size ≤ 40) :
    NearC s ⟨(numP s.data.toList).toArray⟩ ⟨(whP s.data.toList).toArray⟩ ⟨(frP s.data.toList).toArray⟩ (negP s.data.toList) (ptP s.data.toList) w := by
  obtain ⟨m, hm⟩ := hg.max
  have h1 := numP_len s.data.toList
  have h2 := cut_len (numP s.data.toList) [46]
  rw [size_list] at h1
  refine ⟨Any.strings_CutPrefix lays103 s ⟨#[45]⟩ w, Any.strings_Cut lays145 ⟨(numP s.data.toList).toArray⟩ ⟨#[46]⟩ m w (by rw [size_mk]; omega) hm, ?_⟩
  intro x w hx
  refine alld_any x w ?_
  rcases hx with rfl | rfl
  · rw [size_mk]; unfold whP; omega
  · rw [size_mk]; unfold frP; omega

theorem near_any (s : ByteArray) (w : World) (hg : Glo w) :
    Calls Tryd.prog 14 #[.string s] w fun e w' => e = .returned (.tuple #[.int .i64 (nearP s.data.toList).1, .int .i64 (nearP s.data.toList).2]) ∧ Below w.heap.size w w' := by
  have hl := size_list s
  unfold nearP
  rw [hl]
  by_cases h40 : 40 < s.size
  · rw [if_pos h40]
    refine (near_long s w (by omega)).mono ?_
    rintro e w' ⟨rfl, rfl⟩
    exact ⟨rfl, Below.refl _ _⟩
  rw [if_neg h40]
  have C := nearc s w hg (by omega)
  have h1 := numP_len s.data.toList
  have h2 := cut_len (numP s.data.toList) [46]
  cases hok : okP s.data.toList
  · rw [if_pos rfl]
    refine near_bad s _ _ _ _ _ w (by omega) C ?_
    unfold okP at hok
    rw [Bool.and_eq_false_iff] at hok
    rcases hok with h | h
    · exact Or.inl h
    · rw [Bool.or_eq_false_iff] at h
      cases h3 : digs (whP s.data.toList)
      · exact Or.inl rfl
      · exact Or.inr ⟨rfl, by simpa using h.1, h.2⟩
  rw [if_neg (by simp)]
  have hfr := frP_all _ hok
  have hok2 := hok
  unfold okP at hok2
  simp only [Bool.and_eq_true, Bool.or_eq_true, Bool.not_eq_true'] at hok2
  obtain ⟨k1, k2⟩ := hok2
  have k3 : ptP s.data.toList = false ∨ (ptP s.data.toList = true ∧ digs (frP s.data.toList) = true) := by
    cases hp : ptP s.data.toList
    · exact Or.inl rfl
    · rw [hp] at k2
      rcases k2 with k2 | k2
      · cases k2
      · exact Or.inr ⟨rfl, k2⟩
  have c5 : ∀ w, Calls Tryd.prog 25 #[.string ⟨(whP s.data.toList).toArray⟩, .string ⟨#[48]⟩] w fun e w' => e = .returned (.string ⟨(trimLeftB (whP s.data.toList) 48).toArray⟩) ∧ w' = w :=
    fun w => Any.strings_TrimLeft_one lays161 ⟨(whP s.data.toList).toArray⟩ 48 (by decide) w
  by_cases h8 : 8 < (trimLeftB (whP s.data.toList) 48).length
  · have hgr := trim_great _ (digs_all _ k1) h8
    have hin : inB (sgnP s.data.toList) = false := by
      apply inB_f
      unfold sgnP magP
      split <;> omega
    rw [hin, if_neg (by simp)]
    exact near_over s _ _ _ ⟨(trimLeftB (whP s.data.toList) 48).toArray⟩ _ _ w (by omega) C k1 k3 c5 (by rw [size_mk]; omega)
  · have hv := trim_val (whP s.data.toList)
    have hlt := val_lt _ (trim_all _ (digs_all _ k1))
    have hp : 10 ^ (trimLeftB (whP s.data.toList) 48).length ≤ 10 ^ 8 := Nat.pow_le_pow_right (by decide) (by omega)
    have hn := nUp_le (negP s.data.toList) _ hfr
    rw [hv] at hlt
    have := near_good s _ _ _ ⟨(trimLeftB (whP s.data.toList) 48).toArray⟩ _ _ w (by omega) C k1 k3 c5 (by rw [size_mk]; omega) (val (whP s.data.toList)) (nUp (negP s.data.toList) (frP s.data.toList)) (by omega) (by omega)
      (fun w => by have := whole_any ⟨(trimLeftB (whP s.data.toList) 48).toArray⟩ w (by rw [size_mk]; omega) (trim_all _ (digs_all _ k1)); rwa [hv] at this)
      (fun w => nearest_any ⟨(frP s.data.toList).toArray⟩ (negP s.data.toList) w (by rw [size_mk]; unfold frP; omega) hfr)
      (sgnP s.data.toList) (by unfold sgnP magP; split <;> simp)
    refine this.mono ?_
    rintro e w' ⟨rfl, hb⟩
    refine ⟨?_, hb⟩
    split <;> rfl
end Go.Proofs.YtdmfmiejjghfnaaDoor
