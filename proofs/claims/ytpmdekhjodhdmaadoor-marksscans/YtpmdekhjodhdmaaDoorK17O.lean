/-
  Values and attributes in plain words; what attribute of a tag's reader answers.
-/
import Derived.Test.YtpmdekhjodhdmaaDoorK17A
import Derived.Lib.IndexMore
import Derived.Lib.IndexLaws
import Derived.Lib.IndexBytes
namespace Go.Proofs.YtpmdekhjodhdmaaDoor.K17
open Go.RowKit Go.Proofs.YtpmdekhjodhdmaaDoor
open Go.Lib
set_option linter.unusedVariables false
set_option linter.unusedSimpArgs false
set_option maxRecDepth 8000

theorem idx_upto (c : UInt8) : ∀ l : List UInt8, Lib.indexByte l c = if c ∈ l then ((upto c l).length : Int) else -1
  | [] => by simp [Lib.indexByte]
  | b :: l => by
    unfold Lib.indexByte
    by_cases hb : b = c
    · subst hb
      rw [if_pos (by simp), if_pos (by simp)]
      simp [upto]
    · have hne : (b == c) = false := by rw [beq_eq_false_iff_ne]; exact hb
      have hu : upto c (b :: l) = b :: upto c l := by unfold upto; rw [List.takeWhile_cons, if_pos (by simpa using hb)]
      rw [hne, if_neg (by simp), idx_upto c l, hu]
      by_cases hc : c ∈ l
      · rw [if_pos hc, if_neg (by simp <;> omega), if_pos (by simp [hc])]
        simp
      · rw [if_neg hc, if_pos (by simp), if_neg (by simp [hc, Ne.symm hb])]
theorem upto_take (c : UInt8) (l : List UInt8) : l.take (upto c l).length = upto c l := by
  have := List.takeWhile_append_dropWhile (p := (· != c)) (l := l)
  have h2 : l = upto c l ++ l.dropWhile (· != c) := this.symm
  calc l.take (upto c l).length = (upto c l ++ l.dropWhile (· != c)).take (upto c l).length := by rw [← h2]
    _ = upto c l := List.take_left' rfl
theorem upto_get {c : UInt8} {l : List UInt8} (h : c ∈ l) : l[(upto c l).length]? = some c := by
  have := idx_upto c l
  rw [if_pos h] at this
  exact (indexByte_some this).1
theorem upto_lt {c : UInt8} {l : List UInt8} (h : c ∈ l) : (upto c l).length < l.length := (List.getElem?_eq_some_iff.1 (upto_get h)).1
theorem cut_one (c : UInt8) (l : List UInt8) : Lib.cut l [c] = if c ∈ l then (upto c l, l.drop ((upto c l).length + 1), true) else (l, [], false) := by
  unfold Lib.cut
  rw [index_one, idx_upto]
  by_cases h : c ∈ l
  · rw [if_pos h, if_pos h, if_pos (by omega)]
    rw [show ((upto c l).length : Int).toNat = (upto c l).length by omega, upto_take]
    rfl
  · rw [if_neg h, if_neg h, if_neg (by decide)]
theorem vt_upto {c : UInt8} {l : List UInt8} (hc : c.toNat < 128) (h : Vt l) (hm : c ∈ l) : Vt (upto c l) ∧ Vt (l.drop ((upto c l).length + 1)) := by
  have hg := upto_get hm
  obtain ⟨h1, h2⟩ := h.cut (upto c l).length (fun b hb => by rw [hg] at hb; injection hb with hb; rw [← hb]; exact hc)
  rw [upto_take] at h1
  refine ⟨h1, ?_⟩
  have hlt := upto_lt hm
  rw [List.drop_eq_getElem_cons hlt] at h2
  have he : l[(upto c l).length] = c := by rw [List.getElem?_eq_getElem hlt] at hg; injection hg
  rw [he] at h2
  exact (h2.low hc).1
theorem vt_dropW {p : UInt8 → Bool} (hp : ∀ b, p b = true → b.toNat < 128) : ∀ {l : List UInt8}, Vt l → Vt (l.dropWhile p)
  | [], h => by simpa using h
  | b :: l, h => by
    rw [List.dropWhile_cons]
    split
    · rename_i hb; exact vt_dropW hp (h.low (hp b hb)).1
    · exact h
theorem vt_bk {l : List UInt8} (h : Vt l) : Vt (bk l) := vt_dropW (fun b hb => by
  unfold blB at hb
  simp only [List.contains_cons, List.contains_nil, Bool.or_false, Bool.or_eq_true, beq_iff_eq] at hb
  rcases hb with rfl | rfl | rfl | rfl <;> decide) h
theorem vt_nmB {b : UInt8} (hb : nmB b = true) : b.toNat < 128 := by
  unfold nmB nmN smN at hb
  simp only [Bool.or_eq_true, decide_eq_true_eq, beq_iff_eq] at hb
  omega
theorem vt_nm {l x r : List UInt8} (h : Vt l) (hn : nm l = some (x, r)) : Vt r := by
  unfold nm at hn
  split at hn
  · simp only [Option.some.injEq, Prod.mk.injEq] at hn
    rw [← hn.2]
    exact vt_dropW (fun b hb => vt_nmB hb) h
  · simp at hn
theorem hp_cons {c : UInt8} {p l : List UInt8} (h : hp (c :: p) l = true) : ∃ r, l = c :: r ∧ hp p r = true := by
  unfold hp Lib.hasPrefix at h
  cases l with
  | nil => simp [List.isPrefixOf] at h
  | cons b r =>
    simp only [List.isPrefixOf, Bool.and_eq_true, beq_iff_eq] at h
    exact ⟨r, by rw [h.1], h.2⟩
theorem tp_one {c : UInt8} {l : List UInt8} (h : hp [c] l = true) : l = c :: tp [c] l := by
  obtain ⟨r, rfl, _⟩ := hp_cons h
  unfold tp
  rw [if_pos h]
  rfl
theorem vt_tp1 {c : UInt8} {l : List UInt8} (hc : c.toNat < 128) (h : Vt l) (hh : hp [c] l = true) : Vt (tp [c] l) := by
  rw [tp_one hh] at h
  exact (h.low hc).1
theorem tp_f {p l : List UInt8} (h : hp p l = false) : tp p l = l := by unfold tp; rw [h]; rfl
/- the value that begins here, up to its sign, and what is behind that -/
def va (l : List UInt8) : Option (List UInt8 × List UInt8) :=
  if 34 ∈ l then (if 60 ∈ upto 34 l then none else match pl (upto 34 l) with
    | .ok t => some (t, l.drop ((upto 34 l).length + 1))
    | .error _ => none) else none
/- an attribute: its name, its value, what is behind it -/
def att (l : List UInt8) : Option (List UInt8 × List UInt8 × List UInt8) := match nm l with
  | none => none
  | some (x, r) => if hp [61] (bk r) then (if hp [34] (bk (tp [61] (bk r))) then (match va (tp [34] (bk (tp [61] (bk r)))) with
      | none => none
      | some (t, q) => some (x, t, q)) else none) else none
/- the length of the longest piece: a variable of the library's -/
def MX (w : World) : Prop := ∃ m, w.cell? ⟨lays145_ren.g 1, 0, none⟩ = some (.int .i64 m)
theorem MX.below {w w' : World} (h : MX w) (hb : Below w.heap.size w w') : MX w' := by
  obtain ⟨m, hm⟩ := h
  exact ⟨m, by rw [hb.cell (p := ⟨lays145_ren.g 1, 0, none⟩) (cell_lt' hm)]; exact hm⟩
theorem MX.but {b : Nat} {w w' : World} (h : MX w) (hb : But b w w') (hne : lays145_ren.g 1 ≠ b) : MX w' := by
  obtain ⟨m, hm⟩ := h
  refine ⟨m, ?_⟩
  rw [← hm]
  unfold World.cell?
  rw [hb.block _ (cell_lt' hm) hne]
/- where attribute stands -/
structure AS (b : Nat) (w : World) (a : Nat) (x : ByteArray) (cur : World) (l : List UInt8) : Prop where
  ra : RA cur b l
  bu : But b w cur
  z : Blk cur w.heap.size #[.string ⟨#[]⟩, .string ⟨#[]⟩] 47
  ab : Blk cur a #[.string x, .string ⟨#[]⟩] 47
  ne : w.heap.size < a
  mx : MX cur
theorem AS.but {b : Nat} {w : World} {a : Nat} {x : ByteArray} {cur cur' : World} {l l' : List UInt8} (h : AS b w a x cur l) (hlt : b < w.heap.size) (hb : But b cur cur') (hr : RA cur' b l') (hg : lays145_ren.g 1 ≠ b) : AS b w a x cur' l' :=
  ⟨hr, h.bu.trans hb, h.z.but hb (by omega), h.ab.but hb (by have := h.ne; omega), h.ne, h.mx.but hb hg⟩
theorem AS.below {b : Nat} {w : World} {a : Nat} {x : ByteArray} {cur cur' : World} {l : List UInt8} (h : AS b w a x cur l) (hb : Below cur.heap.size cur cur') : AS b w a x cur' l :=
  ⟨h.ra.below hb, h.bu.trans (But.of_below hb), h.z.below hb, h.ab.below hb, h.ne, h.mx.below hb⟩
def AtR (b : Nat) (w : World) (R : Option (List UInt8 × List UInt8 × List UInt8)) (e : Ending) (w' : World) : Prop := match R with
  | none => e = thrown ∧ But b w w'
  | some (x, t, r) => e = .returned (.agg #[.string ⟨x.toArray⟩, .string ⟨t.toArray⟩]) ∧ RA w' b r ∧ But b w w'
/- take, where it is known whether it stands there -/
theorem take_as {b : Nat} {w : World} {a : Nat} {x : ByteArray} {cur : World} {l p : List UInt8} {t : Bool} (S : Hid (AS b w a x cur l)) (ht : hp p l = t) (hlt : b < w.heap.size) (hg : lays145_ren.g 1 ≠ b) :
    Calls Tryd.prog 58 #[.pointer (some ⟨b, 0, none⟩), .string ⟨p.toArray⟩] cur fun e w' => e = .returned (.bool t) ∧ AS b w a x w' (tp p l) :=
  (take_any b l p cur S.out.ra).mono fun e w' ⟨h1, h2⟩ => ⟨by rw [h1, ht], by rw [h2]; exact S.out.but hlt (But.setCell _ _ _ _) (S.out.ra.set _) hg⟩
theorem blanks_as {b : Nat} {w : World} {a : Nat} {x : ByteArray} {cur : World} {l : List UInt8} (S : Hid (AS b w a x cur l)) (hlt : b < w.heap.size) (hg : lays145_ren.g 1 ≠ b) (hl : l.length ≤ 1048576) :
    Calls Tryd.prog 74 #[.pointer (some ⟨b, 0, none⟩)] cur fun e w' => e = .returned (.bool (decide ((bk l).length < l.length))) ∧ AS b w a x w' (bk l) :=
  (blanks_any b l cur S.out.ra hl).mono fun e w' ⟨h1, h2, h3⟩ => ⟨h1, S.out.but hlt h3 h2 hg⟩
theorem name_as {b : Nat} {w : World} {l x r : List UInt8} (h : RA w b l) (hm : MX w) (hl : l.length ≤ 1048576) (hg : lays145_ren.g 1 ≠ b) (hn : nm l = some (x, r)) :
    Calls Tryd.prog 73 #[.pointer (some ⟨b, 0, none⟩)] (w.alloc (.cells #[.string ⟨#[]⟩, .string ⟨#[]⟩] 47)) fun e w' => e = .returned (.string ⟨x.toArray⟩) ∧ AS b w w'.heap.size ⟨x.toArray⟩ (w'.alloc (.cells #[.string ⟨x.toArray⟩, .string ⟨#[]⟩] 47)) r := by
  have hal : Below w.heap.size w (w.alloc (.cells #[.string ⟨#[]⟩, .string ⟨#[]⟩] 47)) := (Below.refl _ _).alloc (Nat.le_refl _) _
  have C := name_any b l _ (h.below hal) hl
  rw [hn] at C
  refine C.mono ?_
  rintro e w' ⟨h1, h2, h3⟩
  have hlt := h.lt
  have hz := h3.size
  simp at hz
  have hal2 : Below w'.heap.size w' (w'.alloc (.cells #[.string ⟨x.toArray⟩, .string ⟨#[]⟩] 47)) := (Below.refl _ _).alloc (Nat.le_refl _) _
  exact ⟨h1, h2.below hal2, ((But.of_below hal).trans h3).trans (But.of_below hal2), ((Blk.new w _ _).but h3 (by omega)).below hal2, Blk.new _ _ _, by omega, ((hm.below hal).but h3 hg).below hal2⟩
theorem name_no {b : Nat} {w : World} {l : List UInt8} (h : RA w b l) (hl : l.length ≤ 1048576) (hn : nm l = none) (o : Obj) :
    Calls Tryd.prog 73 #[.pointer (some ⟨b, 0, none⟩)] (w.alloc o) fun e w' => e = thrown ∧ But b w w' := by
  have hal : Below w.heap.size w (w.alloc o) := (Below.refl _ _).alloc (Nat.le_refl _) _
  have C := name_any b l _ (h.below hal) hl
  rw [hn] at C
  exact C.mono fun e w' ⟨h1, h2⟩ => ⟨h1, (But.of_below hal).trans h2⟩
end Go.Proofs.YtpmdekhjodhdmaaDoor.K17
