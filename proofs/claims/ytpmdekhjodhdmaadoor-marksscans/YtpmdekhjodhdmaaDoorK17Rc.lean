/-
  An entity, as the reference looks for it, is what stands between & and the first ;.
-/
import Derived.Test.YtpmdekhjodhdmaaDoorK17Rb
namespace Go.Proofs.YtpmdekhjodhdmaaDoor.K17
open Go.RowKit Go.Proofs.YtpmdekhjodhdmaaDoor
open Go.Lib
set_option linter.unusedVariables false
set_option linter.unusedSimpArgs false
set_option maxRecDepth 8000

def wds : List (List UInt8) := [[38, 108, 116, 59], [38, 103, 116, 59], [38, 97, 109, 112, 59], [38, 113, 117, 111, 116, 59]]
def cds : List Nat := [60, 62, 38, 34]
theorem ent_wd (q : List UInt8) (i : Nat) (hi : i < 4) (h : hp (wds.getD i []) q = true) : ent q = some (cds.getD i 0, (wds.getD i []).length) := by
  obtain ⟨r, hr⟩ := (hp_iff _ _).1 h
  obtain rfl | rfl | rfl | rfl : i = 0 ∨ i = 1 ∨ i = 2 ∨ i = 3 := by omega
  · have : q = [38, 108, 116, 59] ++ r := hr
    rw [this]
    have hu : upto 59 (([38, 108, 116, 59] ++ r).drop 1) = [108, 116] := by simp [upto, List.takeWhile_cons]
    unfold ent; rw [hu, if_neg (by simp)]; rfl
  · have : q = [38, 103, 116, 59] ++ r := hr
    rw [this]
    have hu : upto 59 (([38, 103, 116, 59] ++ r).drop 1) = [103, 116] := by simp [upto, List.takeWhile_cons]
    unfold ent; rw [hu, if_neg (by simp)]; rfl
  · have : q = [38, 97, 109, 112, 59] ++ r := hr
    rw [this]
    have hu : upto 59 (([38, 97, 109, 112, 59] ++ r).drop 1) = [97, 109, 112] := by simp [upto, List.takeWhile_cons]
    unfold ent; rw [hu, if_neg (by simp)]; rfl
  · have : q = [38, 113, 117, 111, 116, 59] ++ r := hr
    rw [this]
    have hu : upto 59 (([38, 113, 117, 111, 116, 59] ++ r).drop 1) = [113, 117, 111, 116] := by simp [upto, List.takeWhile_cons]
    unfold ent; rw [hu, if_neg (by simp)]; rfl
theorem upto_split {b : UInt8} {l : List UInt8} (h : b ∈ l) : l = upto b l ++ b :: l.drop ((upto b l).length + 1) := by
  have h1 := upto_get h
  have h2 := upto_lt h
  have h3 : l.drop (upto b l).length = b :: l.drop ((upto b l).length + 1) := by
    rw [List.drop_eq_getElem_cons h2]
    rw [List.getElem?_eq_getElem h2] at h1
    injection h1 with h1
    rw [h1]
  calc l = l.take (upto b l).length ++ l.drop (upto b l).length := (List.take_append_drop _ _).symm
    _ = _ := by rw [upto_take, h3]
/- no word: what stands between & and ; is none of the four -/
theorem ent_no (r : List UInt8) (h : ∀ i, i < 4 → hp (wds.getD i []) (38 :: r) = false) : ent (38 :: r) = if 59 ∈ r then (if (upto 59 r).getD 0 0 = 35 then (numW ((upto 59 r).drop 1)).map (fun c => (c, (upto 59 r).length + 2)) else none) else none := by
  unfold ent
  rw [show (38 :: r).drop 1 = r from rfl]
  by_cases hm : (59 : UInt8) ∈ r
  · have hlt := upto_lt hm
    have hsp := upto_split hm
    rw [if_neg (by omega), if_pos hm]
    have key : ∀ w : List UInt8, hp (38 :: (w ++ [59])) (38 :: r) = false → upto 59 r ≠ w := fun w hw he => by
      have : hp (38 :: (w ++ [59])) (38 :: r) = true := (hp_iff _ _).2 ⟨r.drop ((upto 59 r).length + 1), by
        rw [List.cons_append, List.append_assoc]
        congr 1
        rw [← he]
        exact hsp⟩
      rw [hw] at this; cases this
    have k0 := key [108, 116] (h 0 (by omega))
    have k1 := key [103, 116] (h 1 (by omega))
    have k2 := key [97, 109, 112] (h 2 (by omega))
    have k3 := key [113, 117, 111, 116] (h 3 (by omega))
    unfold entW
    rw [if_neg k0, if_neg k1, if_neg k2, if_neg k3]
    split <;> rfl
  · rw [if_pos (by rw [upto_all hm]), if_neg hm]
/- the digits that are looked at: seven at most -/
def dgs (D : List UInt8) : Nat := min 7 (D.takeWhile dgB).length
theorem dtw_le (q : List UInt8) (n : Nat) (h : n ≤ q.length) (ha : (q.take n).all dgB = true) : n ≤ (q.takeWhile dgB).length := by
  induction q generalizing n with
  | nil => simp at h; omega
  | cons b r ih =>
    cases n with
    | zero => omega
    | succ n =>
      rw [List.take_succ_cons, List.all_cons, Bool.and_eq_true] at ha
      rw [List.takeWhile_cons, if_pos ha.1, List.length_cons]
      have := ih n (by simpa using h) ha.2
      omega
theorem dtw_eq : ∀ (l : List UInt8) (k : Nat), (l.take k).all dgB = true → (∀ b, l[k]? = some b → dgB b = false) → l.takeWhile dgB = l.take k
  | [], k, _, _ => by simp
  | b :: l, 0, _, h => by
    have h0 := h b rfl
    rw [List.takeWhile_cons, if_neg (by rw [h0]; simp)]; rfl
  | b :: l, k + 1, h, h2 => by
    rw [List.take_succ_cons, List.all_cons, Bool.and_eq_true] at h
    rw [List.takeWhile_cons, if_pos h.1, dtw_eq l k h.2 (fun c hc => h2 c (by simpa using hc)), List.take_succ_cons]
theorem tw_all (p : UInt8 → Bool) (l : List UInt8) (b : UInt8) (h : b ∈ l.takeWhile p) : p b = true := by
  induction l with
  | nil => simp at h
  | cons c r ih =>
    rw [List.takeWhile_cons] at h
    split at h
    · rcases List.mem_cons.1 h with rfl | h
      · assumption
      · exact ih h
    · simp at h
theorem dgs_7 {q : List UInt8} (h : 7 ≤ q.length) (ha : (q.take 7).all dgB = true) : dgs q = 7 := by
  have := dtw_le q 7 h ha
  unfold dgs; omega
theorem dgs_end {q : List UInt8} {n : Nat} (h : n ≤ q.length) (h7 : n ≤ 7) (ha : (q.take n).all dgB = true) (hn : ∀ b, q[n]? = some b → dgB b = false) : dgs q = n := by
  unfold dgs
  rw [dtw_eq q n ha hn, List.length_take]; omega
theorem dg_not59 {b : UInt8} (h : dgB b = true) : b ≠ 59 := by rintro rfl; exact absurd h (by decide)
theorem ent_num (D : List UInt8) (h : ∀ i, i < 4 → hp (wds.getD i []) (38 :: 35 :: D) = false) :
    ent (38 :: 35 :: D) = if dgs D = 0 ∨ D.getD 0 0 = 48 ∨ D[dgs D]? ≠ some 59 ∨ isP ((dv (D.take (dgs D)) : Nat) : Int) = false ∨ ctl (dv (D.take (dgs D))) = true then none else some (dv (D.take (dgs D)), dgs D + 3) := by
  rw [ent_no _ h]
  have htw : D.take (D.takeWhile dgB).length = D.takeWhile dgB := by
    have := List.takeWhile_append_dropWhile (p := dgB) (l := D)
    calc D.take (D.takeWhile dgB).length = (D.takeWhile dgB ++ D.dropWhile dgB).take (D.takeWhile dgB).length := by rw [this]
      _ = _ := List.take_left' rfl
  have hall : ∀ b ∈ D.take (dgs D), dgB b = true := fun b hb => by
    have h1 : D.take (dgs D) = (D.takeWhile dgB).take (dgs D) := by
      rw [← htw, List.take_take]; congr 1; unfold dgs; omega
    rw [h1] at hb
    exact tw_all _ _ _ (List.mem_of_mem_take hb)
  by_cases hm : D[dgs D]? = some 59
  · have hlt := (List.getElem?_eq_some_iff.1 hm).1
    have hsplit : D = D.take (dgs D) ++ 59 :: D.drop (dgs D + 1) := by
      have h3 : D.drop (dgs D) = 59 :: D.drop (dgs D + 1) := by
        rw [List.drop_eq_getElem_cons hlt]
        rw [List.getElem?_eq_getElem hlt] at hm
        injection hm with hm
        rw [hm]
      calc D = D.take (dgs D) ++ D.drop (dgs D) := (List.take_append_drop _ _).symm
        _ = _ := by rw [h3]
    have hn59 : (59 : UInt8) ∉ D.take (dgs D) := fun hc => dg_not59 (hall _ hc) rfl
    have hu : upto 59 (35 :: D) = 35 :: D.take (dgs D) := by
      have e : (35 :: D) = (35 :: D.take (dgs D)) ++ 59 :: D.drop (dgs D + 1) := by rw [List.cons_append, ← hsplit]
      rw [e]
      have key : ∀ (t r : List UInt8), (59 : UInt8) ∉ t → upto 59 (t ++ 59 :: r) = t := by
        intro t
        induction t with
        | nil => intro r _; simp [upto]
        | cons c t ih =>
          intro r hc
          simp only [List.mem_cons, not_or] at hc
          have := ih r hc.2
          unfold upto at *
          rw [List.cons_append, List.takeWhile_cons, if_pos (by simpa using Ne.symm hc.1), this]
      exact key _ _ (by simp only [List.mem_cons, not_or]; exact ⟨by decide, hn59⟩)
    rw [if_pos (by rw [hsplit]; simp), hu, if_pos (show (35 :: D.take (dgs D)).getD 0 0 = 35 from rfl)]
    simp only [List.drop_one, List.tail_cons]
    have hlen : (D.take (dgs D)).length = dgs D := by rw [List.length_take]; omega
    have h7 : dgs D ≤ 7 := by unfold dgs; omega
    have hg : D.getD 0 0 = 48 ∨ dgs D = 0 ↔ (D.take (dgs D)) = [] ∨ (D.take (dgs D)).getD 0 0 = 48 := by
      by_cases h0 : dgs D = 0
      · rw [h0]; simp
      · have : (D.take (dgs D)).getD 0 0 = D.getD 0 0 := by
          rw [List.getD_eq_getElem?_getD, List.getD_eq_getElem?_getD, List.getElem?_take_of_lt (by omega)]
        rw [this]
        constructor
        · rintro (h | h)
          · exact Or.inr h
          · exact absurd h h0
        · rintro (h | h)
          · have := congrArg List.length h; rw [hlen] at this; exact absurd this h0
          · exact Or.inl h
    have hal : (D.take (dgs D)).all dgB = true := List.all_eq_true.2 hall
    unfold numW
    by_cases hc : D.take (dgs D) = [] ∨ (D.take (dgs D)).getD 0 0 = 48
    · have hc2 := hg.2 hc
      rw [if_pos (by rcases hc with h | h; exact Or.inl h; exact Or.inr (Or.inl h)), if_pos (by rcases hc2 with h | h; exact Or.inr (Or.inl h); exact Or.inl h)]
      rfl
    · have hc2 : ¬ (D.getD 0 0 = 48 ∨ dgs D = 0) := fun h => hc (hg.1 h)
      by_cases hp' : isP ((dv (D.take (dgs D)) : Nat) : Int) = false ∨ ctl (dv (D.take (dgs D))) = true
      · rw [if_pos (by rcases hp' with h | h; exact Or.inr (Or.inr (Or.inr (Or.inr (Or.inl h)))); exact Or.inr (Or.inr (Or.inr (Or.inr (Or.inr h))))), if_pos (by rcases hp' with h | h; exact Or.inr (Or.inr (Or.inr (Or.inl h))); exact Or.inr (Or.inr (Or.inr (Or.inr h))))]
        rfl
      · rw [if_neg (by
          rintro (h | h | h | h | h | h)
          · exact hc (Or.inl h)
          · exact hc (Or.inr h)
          · omega
          · rw [hal] at h; cases h
          · exact hp' (Or.inl h)
          · exact hp' (Or.inr h)), if_neg (by
          rintro (h | h | h | h | h)
          · exact hc2 (Or.inr h)
          · exact hc2 (Or.inl h)
          · exact h hm
          · exact hp' (Or.inl h)
          · exact hp' (Or.inr h))]
        simp only [Option.map_some, List.length_cons, hlen]
  · rw [if_pos (Or.inr (Or.inr (Or.inl hm)))]
    by_cases hin : (59 : UInt8) ∈ 35 :: D
    · have hin2 : (59 : UInt8) ∈ D := by
        rcases List.mem_cons.1 hin with h | h
        · exact absurd h (by decide)
        · exact h
      have hu : upto 59 (35 :: D) = 35 :: upto 59 D := by unfold upto; rw [List.takeWhile_cons, if_pos (by decide)]
      rw [if_pos hin, hu, if_pos (show (35 :: upto 59 D).getD 0 0 = 35 from rfl)]
      simp only [List.drop_one, List.tail_cons]
      unfold numW
      rw [if_pos]
      · rfl
      · by_cases ha : (upto 59 D).all dgB = true
        · by_cases h7 : 7 < (upto 59 D).length
          · exact Or.inr (Or.inr (Or.inl h7))
          · exfalso
            apply hm
            have hg := upto_get hin2
            have hlt := upto_lt hin2
            have : dgs D = (upto 59 D).length := dgs_end (by omega) (by omega) (by rw [upto_take]; exact ha) (fun b hb => by
              rw [hg] at hb; injection hb with hb; rw [← hb]; decide)
            rw [this]; exact hg
        · exact Or.inr (Or.inr (Or.inr (Or.inl (by simpa using ha))))
    · rw [if_neg hin]
theorem ent_else (r : List UInt8) (h : ∀ i, i < 4 → hp (wds.getD i []) (38 :: r) = false) (hr : r.getD 0 0 ≠ 35 ∨ r.length ≤ 1) : ent (38 :: r) = none := by
  rw [ent_no r h]
  split
  · rename_i hm
    have hg : (upto 59 r).getD 0 0 = 35 → r.getD 0 0 = 35 ∧ 2 ≤ r.length := fun h => by
      cases r with
      | nil => simp at hm
      | cons b t =>
        unfold upto at h
        rw [List.takeWhile_cons] at h
        split at h
        · rename_i hb
          have hb35 : b = 35 := by simpa using h
          refine ⟨by simpa using hb35, ?_⟩
          rcases List.mem_cons.1 hm with h2 | h2
          · rw [← h2] at hb; simp at hb
          · have := List.length_pos_of_mem h2
            simp; omega
        · exact absurd h (by decide)
    rw [if_neg (fun h2 => by
      have := hg h2
      rcases hr with h3 | h3
      · exact h3 this.1
      · omega)]
  · rfl
end Go.Proofs.YtpmdekhjodhdmaaDoor.K17
