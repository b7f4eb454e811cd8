/-
  Numbers of two bytes, in plain words. Pure.
-/
import Derived.Test.YtkdnoemakclmdaaHide
namespace Go.Proofs.Ytkdnoemakclmdaa

def bt (l : List UInt8) (k : Nat) : Nat := (l.getD k 0).toNat
def n2 (l : List UInt8) (k : Nat) : Nat := bt l k * 256 + bt l (k + 1)
def s2 (l : List UInt8) (k : Nat) : Int := if n2 l k < 32768 then (n2 l k : Int) else (n2 l k : Int) - 65536
theorem bt_lt (l : List UInt8) (k : Nat) : bt l k < 256 := by unfold bt; exact UInt8.toNat_lt _
theorem n2_lt (l : List UInt8) (k : Nat) : n2 l k < 65536 := by
  have h1 := bt_lt l k; have h2 := bt_lt l (k + 1); unfold n2; omega
theorem s2_bd (l : List UInt8) (k : Nat) : -32768 ≤ s2 l k ∧ s2 l k ≤ 32767 := by
  have h := n2_lt l k
  unfold s2
  split <;> omega
/- are all of some numbers from one to another? -/
def wiB (lo hi : Int) (zs : List Int) : Bool := zs.all fun x => decide (lo ≤ x) && decide (x ≤ hi)
theorem wiB_cons (lo hi x : Int) (zs : List Int) : wiB lo hi (x :: zs) = ((decide (lo ≤ x) && decide (x ≤ hi)) && wiB lo hi zs) := rfl
theorem wiB_one (lo hi x : Int) : wiB lo hi [x] = (decide (lo ≤ x) && decide (x ≤ hi)) := by simp [wiB]
theorem wiB_at {lo hi : Int} {zs : List Int} (h : wiB lo hi zs = true) {k : Nat} (hk : k < zs.length) : lo ≤ zs.getD k 0 ∧ zs.getD k 0 ≤ hi := by
  unfold wiB at h
  rw [List.all_eq_true] at h
  have := h zs[k] (List.getElem_mem hk)
  rw [List.getD_eq_getElem?_getD, List.getElem?_eq_getElem hk]
  simpa using this
theorem wiB_not {lo hi : Int} {zs : List Int} {k : Nat} (hk : k < zs.length) (h : ¬ (lo ≤ zs.getD k 0 ∧ zs.getD k 0 ≤ hi)) : wiB lo hi zs = false := by
  cases e : wiB lo hi zs with
  | false => rfl
  | true => exact absurd (wiB_at e hk) h
theorem wiB_of {lo hi : Int} {zs : List Int} (h : ∀ k, k < zs.length → lo ≤ zs.getD k 0 ∧ zs.getD k 0 ≤ hi) : wiB lo hi zs = true := by
  unfold wiB
  rw [List.all_eq_true]
  intro x hx
  obtain ⟨k, hk, rfl⟩ := List.getElem_of_mem hx
  have := h k hk
  rw [List.getD_eq_getElem?_getD, List.getElem?_eq_getElem hk] at this
  simpa using this
end Go.Proofs.Ytkdnoemakclmdaa
