/-
  What is built is read as it was, in plain words. Pure.
-/
import Derived.Test.YtkdnoemakclmdaaM9Bld
import Derived.WalkKit
namespace Go.Proofs.Ytkdnoemakclmdaa
set_option linter.unusedVariables false

theorem two_back (x : Int) (h0 : 0 ≤ x) (h1 : x ≤ 65535) : (((hiB x).toNat * 256 + (loB x).toNat : Nat) : Int) = x := by
  have e1 : (hiB x).toNat = (x / 256 % 256).toNat := by
    unfold hiB; rw [UInt8.toNat_ofNat']; have : (x / 256 % 256).toNat < 256 := by omega
    exact Nat.mod_eq_of_lt this
  have e2 : (loB x).toNat = (x % 256).toNat := by
    unfold loB; rw [UInt8.toNat_ofNat']; have : (x % 256).toNat < 256 := by omega
    exact Nat.mod_eq_of_lt this
  rw [e1, e2]
  omega
theorem two_mod (x : Int) : (((hiB x).toNat * 256 + (loB x).toNat : Nat) : Int) = x % 65536 := by
  have e1 : (hiB x).toNat = (x / 256 % 256).toNat := by
    unfold hiB; rw [UInt8.toNat_ofNat']; have : (x / 256 % 256).toNat < 256 := by omega
    exact Nat.mod_eq_of_lt this
  have e2 : (loB x).toNat = (x % 256).toNat := by
    unfold loB; rw [UInt8.toNat_ofNat']; have : (x % 256).toNat < 256 := by omega
    exact Nat.mod_eq_of_lt this
  rw [e1, e2]
  omega
theorem n2_is {l : List UInt8} {k : Nat} {x : Int} (h : n2 l k = (hiB x).toNat * 256 + (loB x).toNat) (h0 : 0 ≤ x) (h1 : x ≤ 65535) : ((n2 l k : Nat) : Int) = x := by
  rw [h]; exact two_back x h0 h1
theorem s2_is {l : List UInt8} {k : Nat} {x : Int} (h : n2 l k = (hiB x).toNat * 256 + (loB x).toNat) (h0 : -32768 ≤ x) (h1 : x ≤ 32767) : s2 l k = x := by
  have e : ((n2 l k : Nat) : Int) = x % 65536 := by rw [h]; exact two_mod x
  unfold s2
  split <;> omega
def lgI (b : Bool) : Int := if b then 1 else 0
theorem hdT_b (m : Mt) : putL (putL (putL (cpy (cpy (cpy (zers 54) 0 verS.data.toList) 4 verS.data.toList) 12 magicS.data.toList) 18 [m.up]) 36 [m.b0, m.b1, m.b2, m.b3]) 48 [2] = [0, 1, 0, 0, 0, 1, 0, 0, 0, 0, 0, 0, 95, 15, 60, 245, 0, 0, hiB m.up, loB m.up, 0, 0, 0, 0, 0, 0, 0, 0, 0, 0, 0, 0, 0, 0, 0, 0, hiB m.b0, loB m.b0, hiB m.b1, loB m.b1, hiB m.b2, loB m.b2, hiB m.b3, loB m.b3, 0, 0, 0, 0, hiB 2, loB 2, 0, 0, 0, 0] := rfl
theorem hdT_c (m : Mt) : putL [0, 1, 0, 0, 0, 1, 0, 0, 0, 0, 0, 0, 95, 15, 60, 245, 0, 0, hiB m.up, loB m.up, 0, 0, 0, 0, 0, 0, 0, 0, 0, 0, 0, 0, 0, 0, 0, 0, hiB m.b0, loB m.b0, hiB m.b1, loB m.b1, hiB m.b2, loB m.b2, hiB m.b3, loB m.b3, 0, 0, 0, 0, hiB 2, loB 2, 0, 0, 0, 0] 50 [1] = [0, 1, 0, 0, 0, 1, 0, 0, 0, 0, 0, 0, 95, 15, 60, 245, 0, 0, hiB m.up, loB m.up, 0, 0, 0, 0, 0, 0, 0, 0, 0, 0, 0, 0, 0, 0, 0, 0, hiB m.b0, loB m.b0, hiB m.b1, loB m.b1, hiB m.b2, loB m.b2, hiB m.b3, loB m.b3, 0, 0, 0, 0, hiB 2, loB 2, hiB 1, loB 1, 0, 0] := rfl
theorem hdT_eq (m : Mt) : hdT m = [0, 1, 0, 0, 0, 1, 0, 0, 0, 0, 0, 0, 95, 15, 60, 245, 0, 0, hiB m.up, loB m.up, 0, 0, 0, 0, 0, 0, 0, 0, 0, 0, 0, 0, 0, 0, 0, 0, hiB m.b0, loB m.b0, hiB m.b1, loB m.b1, hiB m.b2, loB m.b2, hiB m.b3, loB m.b3, 0, 0, 0, 0, hiB 2, loB 2, hiB (lgI m.lg), loB (lgI m.lg), 0, 0] := by
  unfold hdT
  rw [hdT_b, hdT_c]
  cases m.lg
  · rw [show hiB (lgI false) = 0 by decide, show loB (lgI false) = 0 by decide]; exact if_neg (by simp)
  · rw [show lgI true = 1 from rfl]; exact if_pos rfl
theorem hhT_eq (m : Mt) (n : Nat) : hhT m n = [0, 1, 0, 0, hiB m.sc, loB m.sc, hiB m.de, loB m.de, hiB m.ga, loB m.ga, hiB (maxV m.ad), loB (maxV m.ad), 0, 0, 0, 0, 0, 0, 0, 0, 0, 0, 0, 0, 0, 0, 0, 0, 0, 0, 0, 0, 0, 0, hiB (n : Int), loB (n : Int)] := rfl
theorem mxT_eq (n : Nat) : mxT n = [0, 1, 0, 0, hiB (n : Int), loB (n : Int), 0, 0, 0, 0, 0, 0, 0, 0, hiB 2, loB 2, 0, 0, 0, 0, 0, 0, 0, 0, 0, 0, 0, 0, 0, 0, 0, 0] := rfl
def flatB (zs : List Int) : List UInt8 := zs.flatMap fun x => [hiB x, loB x]
theorem flatB_len : ∀ zs, (flatB zs).length = 2 * zs.length
  | [] => rfl
  | x :: r => by
    have := flatB_len r
    unfold flatB at *
    rw [List.flatMap_cons, List.length_append, this, List.length_cons]
    simp
    omega
theorem putL_flat : ∀ (zs : List Int) (pre rest : List UInt8), 2 * zs.length ≤ rest.length → putL (pre ++ rest) pre.length zs = pre ++ flatB zs ++ rest.drop (2 * zs.length)
  | [], pre, rest, _ => by simp [putL, flatB]
  | x :: r, pre, rest, h => by
    obtain ⟨a, b, rest', rfl⟩ : ∃ a b t, rest = a :: b :: t := by
      match rest, h with
      | a :: b :: t, _ => exact ⟨a, b, t, rfl⟩
      | [a], h => simp at h; omega
      | [], h => simp at h
    have e : put1 (pre ++ a :: b :: rest') pre.length x = (pre ++ [hiB x, loB x]) ++ rest' := by
      unfold put1
      simp
    have ih := putL_flat r (pre ++ [hiB x, loB x]) rest' (by simp at h; omega)
    rw [putL, e, show pre.length + 2 = (pre ++ [hiB x, loB x]).length by simp, ih]
    unfold flatB
    rw [List.flatMap_cons, List.length_cons, show 2 * (r.length + 1) = 2 * r.length + 2 by omega]
    simp
theorem hmT_eq (ad be : List Int) (n : Nat) : hmT ad be n = flatB (ilv ad be n) := by
  have := putL_flat (ilv ad be n) [] (zers (4 * n)) (by rw [zers_len, ilv_len]; omega)
  unfold hmT
  simp only [List.nil_append, List.length_nil] at this
  rw [this, List.drop_of_length_le (by rw [zers_len, ilv_len]; omega), List.append_nil]
theorem flatB_at : ∀ (zs : List Int) (i : Nat), i < zs.length → n2 (flatB zs) (2 * i) = (hiB (zs.getD i 0)).toNat * 256 + (loB (zs.getD i 0)).toNat
  | [], i, h => by simp at h
  | x :: r, 0, _ => rfl
  | x :: r, i + 1, h => by
    have ih := flatB_at r i (by simpa using h)
    unfold n2 bt at *
    rw [show 2 * (i + 1) = 2 * i + 1 + 1 by omega]
    exact ih
theorem ilv_at (ad be : List Int) : ∀ (n i : Nat), i < n → (ilv ad be n).getD (2 * i) 0 = ad.getD i 0 ∧ (ilv ad be n).getD (2 * i + 1) 0 = be.getD i 0 := by
  intro n
  induction n with
  | zero => intro i h; omega
  | succ n ih =>
    intro i h
    rw [ilv_succ]
    simp only [List.getD_eq_getElem?_getD] at *
    rcases Nat.lt_or_ge i n with h' | h'
    · have := ih i h'
      rw [List.getElem?_append_left (l₂ := _) (i := 2 * i) (by rw [ilv_len]; omega), List.getElem?_append_left (i := 2 * i + 1) (by rw [ilv_len]; omega)]
      exact this
    · obtain rfl : i = n := by omega
      rw [List.getElem?_append_right (i := 2 * i) (by rw [ilv_len]; omega), List.getElem?_append_right (i := 2 * i + 1) (by rw [ilv_len]; omega), ilv_len]
      rw [show 2 * i - 2 * i = 0 by omega, show 2 * i + 1 - 2 * i = 1 by omega]
      simp
end Go.Proofs.Ytkdnoemakclmdaa
