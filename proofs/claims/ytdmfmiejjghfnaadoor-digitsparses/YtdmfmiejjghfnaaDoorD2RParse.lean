/-
  What the reference's Near and Parse (chapter 2) answer of any text.
-/
import Derived.Test.YtdmfmiejjghfnaaDoorD2RNearP
import Derived.Test.YtdmfmiejjghfnaaDoorD2RText
namespace Go.Proofs.YtdmfmiejjghfnaaDoor
open Go.RowKit Go.Lib

theorem bits_any (l : List UInt8) (w : World) (hs : l.length ≤ 40) (hd : l.all isDig = true) :
    Calls Tryd.prog 29 #[.string ⟨l.toArray⟩] w fun e w' => ∃ v, e = .returned (.tuple #[.int .i64 ((dblK 16 (l.map dv)).1 : Int), v]) ∧ OwnI w' w.heap.size v (⟨l.toArray⟩ : ByteArray).size (dblK 16 (l.map dv)).2 ∧ Below w.heap.size w w' := by
  refine bits_core ⟨l.toArray⟩ w (by rw [size_mk]; exact hs) hd (l.map dv) rfl _ _ ?_
  intro k hk
  rw [hk]
theorem up_eq (ng : Bool) (l : List UInt8) (hd : l.all isDig = true) :
    ∀ H, hfV (toI (dblK 16 (l.map dv)).2) = H → (H = -1 ∨ H = 0 ∨ H = 1) ∧ ((nUp ng l : Nat) : Int) = ((dblK 16 (l.map dv)).1 : Int) + (if ng then (if H = 1 then 1 else 0) else (if 0 ≤ H then 1 else 0)) := by
  intro H hH
  have hsm := small_dv l hd
  obtain ⟨e1, e2⟩ := dbl16 _ hsm
  obtain ⟨g1, g2, _⟩ := dblK_spec 16 _ hsm
  rw [hf_spec _ g2, e2, g1] at hH
  rw [e1]
  rw [valN_dv, List.length_map] at *
  unfold nUp
  have hp : 0 < 10 ^ l.length := Nat.pow_pos (by decide)
  generalize val l * 65536 / 10 ^ l.length = q at *
  generalize val l * 65536 % 10 ^ l.length = r at *
  generalize 10 ^ l.length = T at *
  rcases Nat.lt_trichotomy (2 * r) T with h | h | h
  · rw [if_pos h] at hH
    subst hH
    refine ⟨Or.inl rfl, ?_⟩
    rw [if_neg (by omega)]
    cases ng <;> simp
  · rw [if_neg (by omega), if_pos h] at hH
    subst hH
    refine ⟨Or.inr (Or.inl rfl), ?_⟩
    cases ng
    · rw [if_pos (Or.inr ⟨rfl, h⟩)]; simp
    · rw [if_neg (by simp; omega)]; simp
  · rw [if_neg (by omega), if_neg (by omega)] at hH
    subst hH
    refine ⟨Or.inr (Or.inr rfl), ?_⟩
    rw [if_pos (Or.inl h)]
    cases ng <;> simp
theorem rnear_any (s : ByteArray) (w : World) :
    Calls Tryd.prog 15 #[.string s] w fun e w' => e = .returned (.tuple #[.int .i64 (nearP s.data.toList).1, .int .i64 (nearP s.data.toList).2]) ∧ Below w.heap.size w w' := by
  have hl := size_list s
  unfold nearP
  rw [hl]
  by_cases h40 : 40 < s.size
  · rw [if_pos h40]
    refine (rnear_long s w (by omega)).mono ?_
    rintro e w' ⟨rfl, rfl⟩
    exact ⟨rfl, Below.refl _ _⟩
  rw [if_neg h40]
  have cF := rform_any s w (by omega)
  obtain ⟨f1, f2⟩ := form_ok s.data.toList
  rw [f1] at cF
  cases hok : okP s.data.toList
  · rw [hok, if_neg (by simp)] at cF
    rw [if_pos rfl]
    refine (rnear_bad s w (by omega) cF).mono ?_
    rintro e w' ⟨rfl, rfl⟩
    exact ⟨rfl, Below.refl _ _⟩
  rw [hok, if_pos rfl] at cF
  rw [if_neg (by simp)]
  obtain ⟨hwh, hfr⟩ := f2 hok
  have hA := fmAt_le s.data.toList
  have hEl := fmEnd_le s.data.toList
  have hAE : fmAt s.data.toList ≤ fmEnd s.data.toList := by unfold fmEnd; omega
  have hwd : digs (whP s.data.toList) = true := by
    have := hok
    unfold okP at this
    simp only [Bool.and_eq_true] at this
    exact this.1
  have hfd := frP_all _ hok
  have hwne : whP s.data.toList ≠ [] := by
    intro e
    rw [e] at hwd
    exact absurd hwd (by decide)
  have hB : fmBehind s.data.toList ≤ s.size := by
    unfold fmBehind
    rw [hl]
    split
    · omega
    · omega
  have hpos : 0 < s.size := by
    rcases Nat.eq_zero_or_pos s.size with h | h
    · exfalso
      apply hwne
      rw [← hwh, List.eq_nil_of_length_eq_zero (by omega : s.data.toList.length = 0)]
      simp
    · exact h
  have hng : ((s[0].toNat : Int) == 45) = negP s.data.toList := by
    have h0 := drop_at s 0 hpos
    rw [List.drop_zero] at h0
    unfold negP hasPrefix
    rw [h0]
    by_cases h45 : s[0] = 45
    · rw [h45]; rfl
    · have e : ((s[0].toNat : Int) == 45) = false := by
        rw [beq_eq_false_iff_ne]
        intro h
        exact h45 (UInt8.toNat_inj.1 (by have : s[0].toNat = 45 := by omega
                                         rw [this]; rfl))
      rw [e]
      simp [List.isPrefixOf, Ne.symm h45]
  obtain ⟨hHr, hup⟩ := up_eq (negP s.data.toList) (frP s.data.toList) hfd _ rfl
  have hn := dblK_le 16 _ (small_dv _ hfd)
  have hfl : (frP s.data.toList).length ≤ 40 := by
    rw [← hfr, List.length_drop, hl]; omega
  have ht : s.extract (fmBehind s.data.toList) s.size = ⟨(frP s.data.toList).toArray⟩ := by
    rw [extract_from, hfr]
  refine (rnear_core s ⟨(frP s.data.toList).toArray⟩ w (by omega) hpos (negP s.data.toList) hng (fmAt s.data.toList) (fmEnd s.data.toList) (fmBehind s.data.toList) (val (whP s.data.toList)) (dblK 16 ((frP s.data.toList).map dv)).1
    (fun k => val ((s.data.toList.take k).drop (fmAt s.data.toList))) (dblK 16 ((frP s.data.toList).map dv)).2 _ hAE (by omega) (by omega) ht (by omega) ?p0 (by show val _ = val _; rw [hwh]) ?ps ?pm cF
    (fun w => bits_any _ w hfl hfd) (by rw [size_mk]; exact hfl) rfl hHr _ (sgnP s.data.toList) ?x rfl).mono ?_
  case p0 =>
    show val ((s.data.toList.take (fmAt s.data.toList)).drop (fmAt s.data.toList)) = 0
    rw [List.drop_eq_nil_of_le (by rw [List.length_take]; omega)]
    rfl
  case ps =>
    intro k hk hkE
    have hks : k < s.size := by omega
    have hst : (s.data.toList.take (k + 1)).drop (fmAt s.data.toList) = (s.data.toList.take k).drop (fmAt s.data.toList) ++ [s[k]] := by
      rw [take_byte s k hks, List.drop_append_of_le_length (by rw [List.length_take]; omega)]
    have hdk : isDig s[k] = true := by
      have hm : s[k] ∈ whP s.data.toList := by
        rw [← hwh]
        have h1 : s[k] ∈ (s.data.toList.take (k + 1)).drop (fmAt s.data.toList) := by rw [hst]; simp
        have h2 : (s.data.toList.take (k + 1)).drop (fmAt s.data.toList) <+: (s.data.toList.take (fmEnd s.data.toList)).drop (fmAt s.data.toList) := by
          rw [List.drop_take, List.drop_take]
          exact List.take_prefix_take_left (by omega)
        exact h2.subset h1
      have := digs_all _ hwd
      rw [List.all_eq_true] at this
      exact this _ hm
    have h9 := dv_le _ hdk
    refine ⟨dv s[k], hks, h9.2, h9.1, ?_⟩
    show val ((s.data.toList.take (k + 1)).drop (fmAt s.data.toList)) = _
    rw [hst, val_snoc]
  case pm =>
    intro k hk hkE
    show val ((s.data.toList.take k).drop (fmAt s.data.toList)) ≤ _
    rw [← hwh]
    have h2 : (s.data.toList.take k).drop (fmAt s.data.toList) <+: (s.data.toList.take (fmEnd s.data.toList)).drop (fmAt s.data.toList) := by
      rw [List.drop_take, List.drop_take]
      exact List.take_prefix_take_left (by omega)
    obtain ⟨u, hu⟩ := h2
    rw [← hu, val_append]
    have : 0 < 10 ^ u.length := Nat.pow_pos (by decide)
    have := Nat.le_mul_of_pos_right (val ((s.data.toList.take k).drop (fmAt s.data.toList))) this
    omega
  case x =>
    unfold sgnP magP
    cases hneg : negP s.data.toList
    · rw [hneg] at hup
      simp only [Bool.false_eq_true, if_false] at hup ⊢
      omega
    · rw [hneg] at hup
      simp only [if_true] at hup ⊢
      omega
  · rintro e w' ⟨rfl, hb⟩
    refine ⟨?_, hb⟩
    split <;> rfl

theorem rparse_bad (s : ByteArray) (x e : Int) (w : World) (he : (e != 0) = true)
    (cN : Calls Tryd.prog 15 #[.string s] w fun r w' => r = .returned (.tuple #[.int .i64 x, .int .i64 e]) ∧ Below w.heap.size w w') :
    Calls Tryd.prog 13 #[.string s] w fun r w' => r = .returned (.tuple #[.int .i64 0, .bool false]) ∧ Below w.heap.size w w' := by
  have CN := hide cN
  clear cN
  have he' : ¬ e = 0 := by simpa using he
  go_enter Tryd.func13, Tryd.ntmps13
  go_wp2_with (go_at_call 15; refine CN.out.mono ?_; rintro r w1 ⟨rfl, hb⟩)
  go_ret2
  exact ⟨rfl, hb⟩
theorem rparse_core (s t : ByteArray) (x : Int) (b : Bool) (w : World) (hb : (t.toList == s.toList) = b)
    (cN : Calls Tryd.prog 15 #[.string s] w fun r w' => r = .returned (.tuple #[.int .i64 x, .int .i64 0]) ∧ Below w.heap.size w w')
    (cT : ∀ w1, Calls Tryd.prog 10 #[.int .i64 x] w1 fun r w' => r = .returned (.tuple #[.string t, .bool true]) ∧ Below w1.heap.size w1 w') :
    Calls Tryd.prog 13 #[.string s] w fun r w' => r = .returned (.tuple #[.int .i64 (if b then x else 0), .bool b]) ∧ Below w.heap.size w w' := by
  have CN := hide cN
  have CT := hide cT
  have hb' : t.toList = s.toList ↔ b = true := by rw [← hb]; simp
  clear cN cT
  cases b
  all_goals
    simp only [Bool.false_eq_true, iff_false, iff_true] at hb'
    go_enter Tryd.func13, Tryd.ntmps13
    go_wp2_with (first | (go_at_call 15; refine CN.out.mono ?_; rintro r w1 ⟨rfl, hb1⟩) | (go_at_call 10; refine (CT.out _).mono ?_; rintro r w2 ⟨rfl, hb2⟩))
    go_ret2
    exact ⟨rfl, hb1.trans (hb2.mono hb1.size)⟩
theorem rparse_any (s : ByteArray) (w : World) :
    Calls Tryd.prog 13 #[.string s] w fun r w' => r = .returned (.tuple #[.int .i64 (parV s.data.toList), .bool (parB s.data.toList)]) ∧ Below w.heap.size w w' := by
  have cN := rnear_any s w
  unfold parV parB
  by_cases h : (nearP s.data.toList).2 = 0
  · have hin := nearP_in _ h
    rw [h] at cN
    refine (rparse_core s ⟨(textL (nearP s.data.toList).1).toArray⟩ _ _ w rfl cN ?_).mono ?_
    · intro w1
      have := rtext_any (nearP s.data.toList).1 w1
      unfold textV at this
      rwa [hin, if_pos rfl] at this
    · rintro r w' ⟨rfl, hb⟩
      refine ⟨?_, hb⟩
      rw [ByteArray.toList_eq, ByteArray.toList_eq, h]
      simp
  · refine (rparse_bad s _ _ w (by simpa using h) cN).mono ?_
    rintro r w' ⟨rfl, hb⟩
    refine ⟨?_, hb⟩
    rw [decide_eq_false h]
    simp
end Go.Proofs.YtdmfmiejjghfnaaDoor
