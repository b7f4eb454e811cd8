/-
  More than a half, or just that: of digits.
-/
import Derived.Test.YtdmfmiejjghfnaaDoorD2Over
import Derived.Test.YtdmfmiejjghfnaaDoorD2Nearest
import Derived.Test.YtdmfmiejjghfnaaDoorShelf
namespace Go.Proofs.YtdmfmiejjghfnaaDoor
open Go.RowKit Go.Lib

def ovh (l : List UInt8) (hc : Bool) : Bool := !(Op.bytesLess (trimRightB l 48) [53] || (trimRightB l 48 == [53])) || (hc && (trimRightB l 48 == [53]))
theorem over_any (l : List UInt8) (hc : Bool) (w : World) (h : l.length ≤ 40) :
    Calls Tryd.prog 38 #[.string ⟨l.toArray⟩, .bool hc] w fun e w' => e = .returned (.bool (ovh l hc)) ∧ w' = w := by
  have e : (⟨(trimRightB l 48).toArray⟩ : ByteArray).toList = trimRightB l 48 := by rw [ByteArray.toList_eq]
  have cT : ∀ w, Calls Tryd.prog 46 #[.string ⟨l.toArray⟩, .string ⟨#[48]⟩] w fun e w' => e = .returned (.string ⟨(trimRightB l 48).toArray⟩) ∧ w' = w :=
    fun w => Any.strings_TrimRight_one lays162 ⟨l.toArray⟩ 48 (by decide) w (by rw [size_mk]; omega)
  exact over_core ⟨l.toArray⟩ ⟨(trimRightB l 48).toArray⟩ hc _ _ w cT (by rw [e]) (by rw [e])

theorem trim_zeros (l : List UInt8) : ∃ z, l = trimRightB l 48 ++ List.replicate z 48 := by
  have : ∀ m : List UInt8, ∃ z, m = List.replicate z 48 ++ m.dropWhile (· == 48) := by
    intro m
    induction m with
    | nil => exact ⟨0, rfl⟩
    | cons c m ih =>
      by_cases h : c = 48
      · obtain ⟨z, hz⟩ := ih
        refine ⟨z + 1, ?_⟩
        rw [List.dropWhile_cons, if_pos (by simp [h]), List.replicate_succ, List.cons_append, ← hz, h]
      · exact ⟨0, by rw [List.dropWhile_cons, if_neg (by simp [h])]; rfl⟩
  obtain ⟨z, hz⟩ := this l.reverse
  refine ⟨z, ?_⟩
  unfold trimRightB
  have := congrArg List.reverse hz
  rw [List.reverse_reverse, List.reverse_append, List.reverse_replicate] at this
  exact this
theorem trim_last (l : List UInt8) (c : UInt8) (t : List UInt8) (h : trimRightB l 48 = t ++ [c]) : c ≠ 48 := by
  unfold trimRightB at h
  have h2 := congrArg List.reverse h
  rw [List.reverse_reverse, List.reverse_append] at h2
  intro hc
  have : ∀ m : List UInt8, ∀ r, m.dropWhile (· == 48) ≠ 48 :: r := by
    intro m
    induction m with
    | nil => intro r; simp
    | cons a m ih =>
      intro r
      rw [List.dropWhile_cons]
      split
      · exact ih r
      · rename_i ha; intro e; simp at e; simp [e.1] at ha
  exact this _ _ (by rw [h2, hc]; rfl)
theorem val_zeros (z : Nat) : val (List.replicate z 48) = 0 := by
  induction z with
  | zero => rfl
  | succ z ih => rw [List.replicate_succ, val_cons, ih]; simp [dv]
theorem val_pos (l : List UInt8) (h : l ≠ []) (h2 : ∀ t c, l = t ++ [c] → 0 < dv c) : 0 < val l := by
  rcases List.eq_nil_or_concat l with e | ⟨t, c, e⟩
  · exact absurd e h
  · have := h2 t c (by simpa using e)
    rw [e, List.concat_eq_append, val_snoc]
    omega

theorem ovh_eq (l : List UInt8) (hc : Bool) (h : l.all isDig = true) : ovh l hc = (decide (10 ^ l.length < 2 * val l) || (hc && decide (2 * val l = 10 ^ l.length))) := by
  obtain ⟨z, hz⟩ := trim_zeros l
  have hlast := trim_last l
  unfold ovh
  generalize trimRightB l 48 = t at *
  subst hz
  rw [List.all_append, Bool.and_eq_true] at h
  rw [val_append, val_zeros, List.length_append, List.length_replicate, Nat.add_zero, Nat.pow_add]
  generalize hZ : 10 ^ z = Z
  have hZ0 : 0 < Z := by rw [← hZ]; exact Nat.pow_pos (by decide)
  have e1 : (10 ^ t.length * Z < 2 * (val t * Z)) ↔ 10 ^ t.length < 2 * val t := by
    rw [← Nat.mul_assoc, Nat.mul_lt_mul_right hZ0]
  have e2 : (2 * (val t * Z) = 10 ^ t.length * Z) ↔ 2 * val t = 10 ^ t.length := by
    rw [← Nat.mul_assoc]
    exact ⟨fun h => Nat.eq_of_mul_eq_mul_right hZ0 h, fun h => by rw [h]⟩
  have d1 : decide (10 ^ t.length * Z < 2 * (val t * Z)) = decide (10 ^ t.length < 2 * val t) := decide_eq_decide.2 e1
  have d2 : decide (2 * (val t * Z) = 10 ^ t.length * Z) = decide (2 * val t = 10 ^ t.length) := decide_eq_decide.2 e2
  rw [d1, d2]
  clear d1 d2 e1 e2
  cases t with
  | nil => simp [Op.bytesLess, val]
  | cons c r =>
    have hd := h.1
    simp only [List.all_cons, Bool.and_eq_true] at hd
    obtain ⟨c1, c2⟩ := dv_le c hd.1
    have hr := val_lt r hd.2
    rw [val_cons, List.length_cons, Nat.pow_succ]
    have hr0 : r ≠ [] → 0 < val r := by
      intro hne
      refine val_pos r hne ?_
      intro t' c' e
      have := hlast c' (c :: t') (by rw [e]; rfl)
      have hdc : isDig c' = true := by
        have := hd.2
        rw [List.all_eq_true] at this
        exact this c' (by rw [e]; simp)
      have h48 := (dv_le c' hdc).2
      by_cases h0 : dv c' = 0
      · exfalso
        apply this
        apply UInt8.toNat_inj.1
        show c'.toNat = 48
        omega
      · omega
    generalize hT : 10 ^ r.length = T at *
    have hT0 : 0 < T := by rw [← hT]; exact Nat.pow_pos (by decide)
    have hcn : c.toNat = 48 + dv c := by omega
    rcases Nat.lt_trichotomy (dv c) 5 with hlt | heq | hgt
    · have hm : dv c * T ≤ 4 * T := Nat.mul_le_mul_right T (by omega)
      have b1 : c < 53 := by rw [UInt8.lt_iff_toNat_lt]; show c.toNat < 53; omega
      have b2 : (c == 53) = false := by rw [beq_eq_false_iff_ne]; intro e; rw [e] at hlt; exact absurd hlt (by decide)
      rw [decide_eq_false (by omega), decide_eq_false (by omega)]
      simp [Op.bytesLess, b1, b2]
    · have hc5 : c = 53 := UInt8.toNat_inj.1 (by show c.toNat = 53; omega)
      subst hc5
      rw [show dv 53 = 5 from rfl]
      cases r with
      | nil =>
        obtain rfl : T = 1 := by rw [← hT]; rfl
        rw [decide_eq_false (by simp [val]), decide_eq_true (by simp [val])]
        simp [Op.bytesLess]
      | cons a r' =>
        have hv := hr0 (by simp)
        rw [decide_eq_true (by omega)]
        simp [Op.bytesLess]
    · have hm : 6 * T ≤ dv c * T := Nat.mul_le_mul_right T (by omega)
      have b1 : ¬ c < 53 := by rw [UInt8.lt_iff_toNat_lt]; show ¬ c.toNat < 53; omega
      have b2 : (c == 53) = false := by rw [beq_eq_false_iff_ne]; intro e; rw [e] at hgt; exact absurd hgt (by decide)
      rw [decide_eq_true (by omega)]
      simp [Op.bytesLess, b1, b2]

/- the number of scaled points nearest to a fraction -/
def nUp (below : Bool) (l : List UInt8) : Nat :=
  val l * 65536 / 10 ^ l.length + (if 10 ^ l.length < 2 * (val l * 65536 % 10 ^ l.length) ∨ (below = false ∧ 2 * (val l * 65536 % 10 ^ l.length) = 10 ^ l.length) then 1 else 0)
theorem nearest_any (s : ByteArray) (below : Bool) (w : World) (hs : s.size ≤ 40) (hd : s.data.toList.all isDig = true) :
    Calls Tryd.prog 27 #[.string s, .bool below] w fun e w' => e = .returned (.int .i64 (nUp below s.data.toList)) ∧ Below w.heap.size w w' := by
  have hl : (nrow s.data.toList).2.length = s.size := by rw [nrow_len, size_list]
  refine near_core s below (ovh (nrow s.data.toList).2 (!below)) w hs hd (fun w => over_any _ _ w (by omega)) _ ?_
  rw [ovh_eq _ _ (nrow_dig _), nrow_len, (nrow_parts s.data.toList).1, (nrow_parts s.data.toList).2]
  unfold nUp
  congr 1
  cases below <;> simp
theorem nUp_le (below : Bool) (l : List UInt8) (h : l.all isDig = true) : nUp below l ≤ 65536 := by
  have h1 := nrow_le l h
  rw [(nrow_parts l).1] at h1
  unfold nUp
  split <;> omega
theorem nUp_nil (below : Bool) : nUp below [] = 0 := by cases below <;> decide
end Go.Proofs.YtdmfmiejjghfnaaDoor
