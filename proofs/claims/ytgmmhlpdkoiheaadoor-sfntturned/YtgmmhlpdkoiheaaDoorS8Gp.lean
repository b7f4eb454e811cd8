/-
  What stands in a font file, in plain words. Pure.
-/
import Derived.Test.YtgmmhlpdkoiheaaDoorS8Fau
namespace Go.Proofs.YtgmmhlpdkoiheaaDoor
open Go.RowKit Go.Deep
set_option linter.unusedVariables false

theorem cmp4 (a0 a1 a2 a3 b0 b1 b2 b3 : UInt8) : decide (0 ≤ Extern.BytealgCompare.cmp ⟨[a0, a1, a2, a3].toArray⟩ ⟨[b0, b1, b2, b3].toArray⟩) = !Op.bytesLess [a0, a1, a2, a3] [b0, b1, b2, b3] := by
  have e : ∀ (x0 x1 x2 x3 : UInt8), (⟨[x0, x1, x2, x3].toArray⟩ : ByteArray)[0]! = x0 ∧ (⟨[x0, x1, x2, x3].toArray⟩ : ByteArray)[1]! = x1 ∧ (⟨[x0, x1, x2, x3].toArray⟩ : ByteArray)[2]! = x2 ∧ (⟨[x0, x1, x2, x3].toArray⟩ : ByteArray)[3]! = x3 := fun _ _ _ _ => ⟨rfl, rfl, rfl, rfl⟩
  obtain ⟨p0, p1, p2, p3⟩ := e a0 a1 a2 a3
  obtain ⟨q0, q1, q2, q3⟩ := e b0 b1 b2 b3
  have hr : List.range (min (ByteArray.size ⟨[a0, a1, a2, a3].toArray⟩) (ByteArray.size ⟨[b0, b1, b2, b3].toArray⟩)) = [0, 1, 2, 3] := rfl
  have hs : ∀ (x0 x1 x2 x3 : UInt8), ByteArray.size ⟨[x0, x1, x2, x3].toArray⟩ = 4 := fun _ _ _ _ => rfl
  unfold Extern.BytealgCompare.cmp
  rw [hr, hs, hs]
  simp only [List.find?, p0, p1, p2, p3, q0, q1, q2, q3, Op.bytesLess]
  by_cases h0 : a0 = b0
  · subst h0
    by_cases h1 : a1 = b1
    · subst h1
      by_cases h2 : a2 = b2
      · subst h2
        by_cases h3 : a3 = b3
        · subst h3; simp
        · have hn : (a3 != b3) = true := by simp [h3]
          simp only [hn]
          by_cases h : a3 < b3 <;> simp [h, p3, q3]
      · have hn : (a2 != b2) = true := by simp [h2]
        simp only [hn]
        by_cases h : a2 < b2 <;> simp [h, h2, p2, q2]
    · have hn : (a1 != b1) = true := by simp [h1]
      simp only [hn]
      by_cases h : a1 < b1 <;> simp [h, h1, p1, q1]
  · have hn : (a0 != b0) = true := by simp [h0]
    simp only [hn]
    by_cases h : a0 < b0 <;> simp [h, h0, p0, q0]
theorem less_total : ∀ (a b : List UInt8), (Op.bytesLess a b || a == b) = !Op.bytesLess b a
  | [], [] => by simp [Op.bytesLess]
  | [], b :: y => by simp [Op.bytesLess]
  | a :: x, [] => by simp [Op.bytesLess]
  | a :: x, b :: y => by
    have ih := less_total x y
    simp only [Op.bytesLess]
    by_cases h : a = b
    · subst h
      have : ¬ a < a := by rw [UInt8.lt_iff_toNat_lt]; omega
      simp [this]
      simpa using ih
    · by_cases h1 : a < b
      · have h2 : ¬ b < a := by rw [UInt8.lt_iff_toNat_lt] at *; omega
        have h3 : ¬ b = a := fun e => h e.symm
        simp [h1, h2, h3]
      · have h2 : b < a := by
          rw [UInt8.lt_iff_toNat_lt] at *
          have : a.toNat ≠ b.toNat := fun e => h (UInt8.toNat_inj.1 e)
          omega
        simp [h, h1, h2]
/- tags -/
def tgT (r : Rw) : List UInt8 := [r.b0, r.b1, r.b2, r.b3]
def gdB (c : UInt8) : Bool := decide (32 ≤ c.toNat) && decide (c.toNat ≤ 126)
def goodT (r : Rw) : Bool := gdB r.b0 && (gdB r.b1 && (gdB r.b2 && gdB r.b3))
def riseB : List UInt8 → List Rw → Bool
  | _, [] => true
  | a, r :: rs => goodT r && (Op.bytesLess a (tgT r) && riseB (tgT r) rs)
/- what a sum is of -/
def smdT (r : Rw) (d : List UInt8) : List UInt8 := if isHd r.b0 r.b1 r.b2 r.b3 && decide (12 ≤ d.length) then d.take 8 ++ ([0, 0, 0, 0] ++ d.drop 12) else d
def dtT (l : List UInt8) (r : Rw) : List UInt8 := (l.drop r.pl.toNat).take r.ln.toNat
def smB (l : List UInt8) (r : Rw) : Bool := r.sum == ((sumV (smdT r (dtT l r)) : Nat) : Int)
def plB (N n : Nat) (r : Rw) : Bool := decide (r.pl % 4 = 0) && (decide ((12 : Int) + 16 * n ≤ r.pl) && decide (r.pl + r.ln ≤ N))
/- what is wrong with rows: those that were seen, those that are left, the error so far -/
def fauG (l : List UInt8) (N n : Nat) : List Rw → List Rw → Int → Int
  | _, [], e => e
  | ds, r :: rs, e => if plB N n r then (if ds.any (fun q => meetB r q) then 80 else fauG l N n (ds ++ [r]) rs (if smB l r then e else 81)) else 80
def okG (N n : Nat) : List Rw → List Rw → Bool
  | _, [] => true
  | ds, r :: rs => plB N n r && (!(ds.any fun q => meetB r q) && okG N n (ds ++ [r]) rs)
theorem fauG_eq (l : List UInt8) (N n : Nat) : ∀ (rs ds : List Rw) (e : Int), fauG l N n ds rs e = if okG N n ds rs then (if rs.all (smB l) then e else 81) else 80
  | [], ds, e => rfl
  | r :: rs, ds, e => by
    rw [fauG, okG]
    cases plB N n r with
    | false => rfl
    | true =>
      cases hm : ds.any (fun q => meetB r q) with
      | true => rfl
      | false =>
        rw [fauG_eq l N n rs, List.all_cons]
        obtain ⟨C, hC⟩ : ∃ C, rs.all (smB l) = C := ⟨_, rfl⟩
        obtain ⟨D, hD⟩ : ∃ D, okG N n (ds ++ [r]) rs = D := ⟨_, rfl⟩
        obtain ⟨A, hA⟩ : ∃ A, smB l r = A := ⟨_, rfl⟩
        rw [hC, hD, hA]
        cases A <;> cases C <;> cases D <;> rfl
/- a file -/
def nTab (l : List UInt8) : Nat := numV ((l.drop 4).take 2)
def rwAt (l : List UInt8) (i : Nat) : Rw := rowV (l.drop (12 + 16 * i))
def rowsV (l : List UInt8) (n : Nat) : List Rw := (List.range n).map (rwAt l)
theorem rowsV_len (l : List UInt8) (n : Nat) : (rowsV l n).length = n := by unfold rowsV; simp
theorem rowsV_at (l : List UInt8) (n i : Nat) (h : i < n) : (rowsV l n)[i]? = some (rwAt l i) := by unfold rowsV; simp [h]
def hdB (l : List UInt8) : Bool := decide (12 ≤ l.length) && (decide (1 ≤ nTab l) && (decide (nTab l ≤ 32) && ((l.take 12 == openT (nTab l)) && decide (12 + 16 * nTab l ≤ l.length))))
def errV (l : List UInt8) : Int :=
  if 1048576 < l.length then 2
  else if hdB l && riseB [0, 0, 0, 0] (rowsV l (nTab l)) then fauG l l.length (nTab l) [] (rowsV l (nTab l)) 0 else 80
def tbOf (s : ByteArray) (r : Rw) : ByteArray × ByteArray := (⟨(tgT r).toArray⟩, s.extract r.pl.toNat (r.pl.toNat + r.ln.toNat))
def tabV (s : ByteArray) : List (ByteArray × ByteArray) := if errV s.data.toList = 0 then (rowsV s.data.toList (nTab s.data.toList)).map (tbOf s) else []
theorem rwAt_ok (l : List UInt8) (i : Nat) : RwOk (rwAt l i) := rowV_ok _
theorem drop_at {α : Type} (rs : List α) (k : Nat) {r : α} (h : rs[k]? = some r) : rs.drop k = r :: rs.drop (k + 1) := by
  obtain ⟨hk, rfl⟩ := List.getElem?_eq_some_iff.1 h
  exact List.drop_eq_getElem_cons hk
theorem take_at {α : Type} (rs : List α) (k : Nat) {r : α} (h : rs[k]? = some r) : rs.take (k + 1) = rs.take k ++ [r] := by
  obtain ⟨hk, rfl⟩ := List.getElem?_eq_some_iff.1 h
  exact List.take_succ_eq_append_getElem hk
/- rows lie -/
structure RAt (w : World) (b o : Nat) (r : Rw) : Prop where
  g0 : w.cell? ⟨b, o, none⟩ = some (.int .u8 (r.b0.toNat : Int))
  g1 : w.cell? ⟨b, o + 1, none⟩ = some (.int .u8 (r.b1.toNat : Int))
  g2 : w.cell? ⟨b, o + 2, none⟩ = some (.int .u8 (r.b2.toNat : Int))
  g3 : w.cell? ⟨b, o + 3, none⟩ = some (.int .u8 (r.b3.toNat : Int))
  g4 : w.cell? ⟨b, o + 4, none⟩ = some (.int .i64 r.sum)
  g5 : w.cell? ⟨b, o + 5, none⟩ = some (.int .i64 r.pl)
  g6 : w.cell? ⟨b, o + 6, none⟩ = some (.int .i64 r.ln)
def RLst (w : World) (b : Nat) (rs : List Rw) : Prop := b < w.heap.size ∧ ∀ i r, rs[i]? = some r → RAt w b (i * 7) r
theorem RLst.below {w w' : World} {b : Nat} {rs : List Rw} (h : RLst w b rs) (hb : Below w.heap.size w w') : RLst w' b rs := by
  have e : ∀ o, w'.cell? ⟨b, o, none⟩ = w.cell? ⟨b, o, none⟩ := fun o => hb.cell (p := ⟨b, o, none⟩) h.1
  refine ⟨Nat.lt_of_lt_of_le h.1 hb.size, fun i r hi => ?_⟩
  obtain ⟨g0, g1, g2, g3, g4, g5, g6⟩ := h.2 i r hi
  exact ⟨by rw [e]; exact g0, by rw [e]; exact g1, by rw [e]; exact g2, by rw [e]; exact g3, by rw [e]; exact g4, by rw [e]; exact g5, by rw [e]; exact g6⟩
theorem RLst.kept {w w' : World} {b B : Nat} {rs : List Rw} (h : RLst w b rs) (hb : Below B w w') (hB : b < B) : RLst w' b rs := by
  have e : ∀ o, w'.cell? ⟨b, o, none⟩ = w.cell? ⟨b, o, none⟩ := fun o => hb.cell (p := ⟨b, o, none⟩) hB
  refine ⟨Nat.lt_of_lt_of_le h.1 hb.size, fun i r hi => ?_⟩
  obtain ⟨g0, g1, g2, g3, g4, g5, g6⟩ := h.2 i r hi
  exact ⟨by rw [e]; exact g0, by rw [e]; exact g1, by rw [e]; exact g2, by rw [e]; exact g3, by rw [e]; exact g4, by rw [e]; exact g5, by rw [e]; exact g6⟩
theorem Blk.ag {w : World} {b : Nat} {r : Rw} {t : TypeId} (h : Blk w b (rwC r) t) : RAt w b 0 r := ⟨h.cell 0, h.cell 1, h.cell 2, h.cell 3, h.cell 4, h.cell 5, h.cell 6⟩
end Go.Proofs.YtgmmhlpdkoiheaaDoor
