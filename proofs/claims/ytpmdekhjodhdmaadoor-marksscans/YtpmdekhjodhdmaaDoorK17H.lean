/-
  What opening of a tag's reader answers.
-/
import Derived.Test.YtpmdekhjodhdmaaDoorK17G
namespace Go.Proofs.YtpmdekhjodhdmaaDoor.K17
open Go.RowKit Go.Proofs.YtpmdekhjodhdmaaDoor
open Go.Lib
set_option linter.unusedVariables false
set_option linter.unusedSimpArgs false
set_option maxRecDepth 8000

theorem va_len {l t r : List UInt8} (h : va l = some (t, r)) : r.length ≤ l.length ∧ (Vt l → Vt r) := by
  unfold va at h
  split at h
  · rename_i hm
    split at h
    · simp at h
    · cases hp : pl (upto 34 l) with
      | error p => rw [hp] at h; simp at h
      | ok u =>
        rw [hp] at h
        simp only [Option.some.injEq, Prod.mk.injEq] at h
        rw [← h.2]
        exact ⟨by rw [List.length_drop]; omega, fun hv => (vt_upto (by decide) hv hm).2⟩
  · simp at h
theorem att_len {l x t r : List UInt8} (h : att l = some (x, t, r)) : r.length < l.length ∧ (Vt l → Vt r) := by
  unfold att at h
  cases hn : nm l with
  | none => rw [hn] at h; simp at h
  | some p =>
    obtain ⟨y, q⟩ := p
    rw [hn] at h
    simp only at h
    split at h
    · rename_i h61
      split at h
      · rename_i h34
        cases hv : va (tp [34] (bk (tp [61] (bk q)))) with
        | none => rw [hv] at h; simp at h
        | some u =>
          obtain ⟨u1, u2⟩ := u
          rw [hv] at h
          simp only [Option.some.injEq, Prod.mk.injEq] at h
          obtain ⟨rfl, rfl, rfl⟩ := h
          have h1 := (nm_len hn).1
          have := bk_le q; have := tp_len [61] (bk q); have := bk_le (tp [61] (bk q)); have := tp_len [34] (bk (tp [61] (bk q)))
          have h2 := va_len hv
          exact ⟨by omega, fun hvt => h2.2 (vt_tp1 (by decide) (vt_bk (vt_tp1 (by decide) (vt_bk (vt_nm hvt hn)) h61)) h34)⟩
      · simp at h
    · simp at h
/- what stands behind the name of a tag that opens: its kind, its attributes, what is behind it -/
def opF : Nat → List UInt8 → List At → Option (Int × List At × List UInt8)
  | 0, _, _ => none
  | f + 1, l, ps =>
    if hp [62] (bk l) then some (1, ps, tp [62] (bk l))
    else if hp [47, 62] (bk l) then some (3, ps, tp [47, 62] (bk l))
    else if (bk l).length < l.length ∧ ps.length < 16 then (match att (bk l) with
      | none => none
      | some (x, t, r) => if nmd ps x then none else opF f r (ps ++ [(x, t)]))
    else none
def op (l : List UInt8) : Option (Int × List UInt8 × List At × List UInt8) := match nm l with
  | none => none
  | some (x, r) => match opF (r.length + 1) r [] with
    | none => none
    | some (k, ps, q) => some (k, x, ps, q)
def OP (l : List UInt8) (ps : List At) (R : Option (Int × List At × List UInt8)) : Prop := ∃ f, l.length < f ∧ opF f l ps = R
theorem OP.unf {l : List UInt8} {ps : List At} {R : Option (Int × List At × List UInt8)} (h : OP l ps R) : ∃ f, l.length ≤ f ∧ opF (f + 1) l ps = R := by
  obtain ⟨f, h1, h2⟩ := h
  obtain ⟨g, rfl⟩ : ∃ g, f = g + 1 := ⟨f - 1, by omega⟩
  exact ⟨g, by omega, h2⟩
theorem OP.a {l : List UInt8} {ps : List At} {R : Option (Int × List At × List UInt8)} (h : OP l ps R) (h1 : hp [62] (bk l) = true) : R = some (1, ps, tp [62] (bk l)) := by
  obtain ⟨f, _, h⟩ := h.unf; rw [opF, if_pos h1] at h; exact h.symm
theorem OP.b {l : List UInt8} {ps : List At} {R : Option (Int × List At × List UInt8)} (h : OP l ps R) (h1 : hp [62] (bk l) = false) (h2 : hp [47, 62] (bk l) = true) : R = some (3, ps, tp [47, 62] (bk l)) := by
  obtain ⟨f, _, h⟩ := h.unf; rw [opF, if_neg (by rw [h1]; simp), if_pos h2] at h; exact h.symm
theorem OP.c {l : List UInt8} {ps : List At} {R : Option (Int × List At × List UInt8)} (h : OP l ps R) (h1 : hp [62] (bk l) = false) (h2 : hp [47, 62] (bk l) = false) (h3 : ¬ ((bk l).length < l.length ∧ ps.length < 16)) : R = none := by
  obtain ⟨f, _, h⟩ := h.unf; rw [opF, if_neg (by rw [h1]; simp), if_neg (by rw [h2]; simp), if_neg h3] at h; exact h.symm
theorem OP.d {l : List UInt8} {ps : List At} {R : Option (Int × List At × List UInt8)} (h : OP l ps R) (h1 : hp [62] (bk l) = false) (h2 : hp [47, 62] (bk l) = false) (h3 : (bk l).length < l.length ∧ ps.length < 16) (h4 : att (bk l) = none) : R = none := by
  obtain ⟨f, _, h⟩ := h.unf; rw [opF, if_neg (by rw [h1]; simp), if_neg (by rw [h2]; simp), if_pos h3, h4] at h; exact h.symm
theorem OP.e {l x t r : List UInt8} {ps : List At} {R : Option (Int × List At × List UInt8)} (h : OP l ps R) (h1 : hp [62] (bk l) = false) (h2 : hp [47, 62] (bk l) = false) (h3 : (bk l).length < l.length ∧ ps.length < 16) (h4 : att (bk l) = some (x, t, r)) (h5 : nmd ps x = true) : R = none := by
  obtain ⟨f, _, h⟩ := h.unf; rw [opF, if_neg (by rw [h1]; simp), if_neg (by rw [h2]; simp), if_pos h3, h4] at h
  simp only [h5, if_true] at h; exact h.symm
theorem OP.f {l x t r : List UInt8} {ps : List At} {R : Option (Int × List At × List UInt8)} (h : OP l ps R) (h1 : hp [62] (bk l) = false) (h2 : hp [47, 62] (bk l) = false) (h3 : (bk l).length < l.length ∧ ps.length < 16) (h4 : att (bk l) = some (x, t, r)) (h5 : nmd ps x = false) : OP r (ps ++ [(x, t)]) R := by
  obtain ⟨f, hf, h⟩ := h.unf; rw [opF, if_neg (by rw [h1]; simp), if_neg (by rw [h2]; simp), if_pos h3, h4] at h
  simp only [h5, Bool.false_eq_true, if_false] at h
  exact ⟨f, by have := (att_len h4).1; omega, h⟩
/- what is still to be read, by the world -/
def rdL (b : Nat) (w : World) : Nat := match w.cell? ⟨b, 0, none⟩ with
  | some (.string s) => s.size
  | _ => 0
theorem RA.rdL {w : World} {b : Nat} {l : List UInt8} (h : RA w b l) : rdL b w = l.length := by
  unfold K17.rdL; rw [h.c0]; exact size_m l
/- where opening stands -/
structure OS (b : Nat) (w : World) (tb : Nat) (x : ByteArray) (v : Value) (ps : List At) (cur : World) (l : List UInt8) : Prop where
  ra : RA cur b l
  bu : But b w cur
  z : Blk cur w.heap.size zt 45
  t : Blk cur tb #[.int .i64 0, .string x, .string ⟨#[]⟩, v, .int .i64 0] 45
  ne : w.heap.size < tb
  mx : MX cur
  rw' : ARow cur w.heap.size v ps
theorem OS.but {b : Nat} {w : World} {tb : Nat} {x : ByteArray} {v : Value} {ps : List At} {cur cur' : World} {l l' : List UInt8} (h : OS b w tb x v ps cur l) (hlt : b < w.heap.size) (hb : But b cur cur') (hr : RA cur' b l') (hg : lays145_ren.g 1 ≠ b) : OS b w tb x v ps cur' l' :=
  ⟨hr, h.bu.trans hb, h.z.but hb (by omega), h.t.but hb (by have := h.ne; omega), h.ne, h.mx.but hb hg, h.rw'.but hb hlt⟩
theorem OS.below {b : Nat} {w : World} {tb : Nat} {x : ByteArray} {v : Value} {ps : List At} {cur cur' : World} {l : List UInt8} (h : OS b w tb x v ps cur l) (hb : Below cur.heap.size cur cur') : OS b w tb x v ps cur' l :=
  ⟨h.ra.below hb, h.bu.trans (But.of_below hb), h.z.below hb, h.t.below hb, h.ne, h.mx.below hb, h.rw'.below hb⟩
theorem take_os {b : Nat} {w : World} {tb : Nat} {x : ByteArray} {v : Value} {ps : List At} {cur : World} {l p : List UInt8} {t : Bool} (S : Hid (OS b w tb x v ps cur l)) (ht : hp p l = t) (hlt : b < w.heap.size) (hg : lays145_ren.g 1 ≠ b) :
    Calls Tryd.prog 58 #[.pointer (some ⟨b, 0, none⟩), .string ⟨p.toArray⟩] cur fun e w' => e = .returned (.bool t) ∧ OS b w tb x v ps w' (tp p l) :=
  (take_any b l p cur S.out.ra).mono fun e w' ⟨h1, h2⟩ => ⟨by rw [h1, ht], by rw [h2]; exact S.out.but hlt (But.setCell _ _ _ _) (S.out.ra.set _) hg⟩
theorem take_osf {b : Nat} {w : World} {tb : Nat} {x : ByteArray} {v : Value} {ps : List At} {cur : World} {l p : List UInt8} (S : Hid (OS b w tb x v ps cur l)) (ht : hp p l = false) (hlt : b < w.heap.size) (hg : lays145_ren.g 1 ≠ b) :
    Calls Tryd.prog 58 #[.pointer (some ⟨b, 0, none⟩), .string ⟨p.toArray⟩] cur fun e w' => e = .returned (.bool false) ∧ OS b w tb x v ps w' l :=
  (take_os S ht hlt hg).mono fun e w' ⟨h1, h2⟩ => ⟨h1, by rw [tp_f ht] at h2; exact h2⟩
theorem blanks_os {b : Nat} {w : World} {tb : Nat} {x : ByteArray} {v : Value} {ps : List At} {cur : World} {l : List UInt8} {D : Bool} (S : Hid (OS b w tb x v ps cur l)) (hlt : b < w.heap.size) (hg : lays145_ren.g 1 ≠ b) (hl : l.length ≤ 1048576) (hD : decide ((bk l).length < l.length) = D) :
    Calls Tryd.prog 74 #[.pointer (some ⟨b, 0, none⟩)] cur fun e w' => e = .returned (.bool D) ∧ OS b w tb x v ps w' (bk l) :=
  (blanks_any b l cur S.out.ra hl).mono fun e w' ⟨h1, h2, h3⟩ => ⟨by rw [h1, hD], S.out.but hlt h3 h2 hg⟩
theorem att_no {b : Nat} {w : World} {tb : Nat} {x : ByteArray} {v : Value} {ps : List At} {cur : World} {l : List UInt8} (S : Hid (OS b w tb x v ps cur l)) (hg : lays145_ren.g 1 ≠ b) (hl : l.length ≤ 1048576) (hv : Vt l) (hA : att l = none) :
    Calls Tryd.prog 75 #[.pointer (some ⟨b, 0, none⟩)] cur fun e w' => e = thrown ∧ But b w w' := by
  have C := attribute_any b l cur S.out.ra S.out.mx hl hv hg
  rw [hA] at C
  exact C.mono fun e w' h => ⟨h.1, S.out.bu.trans h.2⟩
theorem att_yes {b : Nat} {w : World} {tb : Nat} {x : ByteArray} {v : Value} {ps : List At} {cur : World} {l y t r : List UInt8} (S : Hid (OS b w tb x v ps cur l)) (hlt : b < w.heap.size) (hg : lays145_ren.g 1 ≠ b) (hl : l.length ≤ 1048576) (hv : Vt l) (hA : att l = some (y, t, r)) :
    Calls Tryd.prog 75 #[.pointer (some ⟨b, 0, none⟩)] cur fun e w' => e = .returned (.agg #[.string ⟨y.toArray⟩, .string ⟨t.toArray⟩]) ∧ OS b w tb x v ps (w'.alloc (.cells #[.string ⟨y.toArray⟩, .string ⟨t.toArray⟩] 47)) r ∧ Blk (w'.alloc (.cells #[.string ⟨y.toArray⟩, .string ⟨t.toArray⟩] 47)) w'.heap.size #[.string ⟨y.toArray⟩, .string ⟨t.toArray⟩] 47 := by
  have C := attribute_any b l cur S.out.ra S.out.mx hl hv hg
  rw [hA] at C
  exact C.mono fun e w' h => ⟨h.1, (S.out.but hlt h.2.2 h.2.1 hg).below ((Below.refl _ _).alloc (Nat.le_refl _) _), Blk.new _ _ _⟩
theorem named_os {b : Nat} {w : World} {tb : Nat} {x : ByteArray} {a : Option Addr} {cap n : Nat} {ps : List At} {cur : World} {l y : List UInt8} {N : Bool} (S : Hid (OS b w tb x (.slice a n cap) ps cur l)) (hn : ps.length = n) (hl : ps.length ≤ 1000000) (hN : nmd ps y = N) :
    Calls Tryd.prog 76 #[.slice a n cap, .string ⟨y.toArray⟩] cur fun e w' => e = .returned (.bool N) ∧ OS b w tb x (.slice a n cap) ps w' l ∧ Below cur.heap.size cur w' := by
  subst hn
  obtain ⟨a', cap', he, hA, _⟩ := S.out.rw'.lst
  injection he with he1 _ he3
  subst he1
  exact (named_any a cap ps y cur hA hl).mono fun e w' ⟨h1, h2⟩ => ⟨by rw [h1, hN], S.out.below h2, h2⟩
def OpR (b : Nat) (w : World) (R : Option (Int × List UInt8 × List At × List UInt8)) (e : Ending) (w' : World) : Prop := match R with
  | none => e = thrown ∧ But b w w'
  | some (k, x, ps, r) => ∃ v, e = .returned (tkv k ⟨x.toArray⟩ ⟨#[]⟩ v 0) ∧ ARow w' w.heap.size v ps ∧ RA w' b r ∧ But b w w'
end Go.Proofs.YtpmdekhjodhdmaaDoor.K17
