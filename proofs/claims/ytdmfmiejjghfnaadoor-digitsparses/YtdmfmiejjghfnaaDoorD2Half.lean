/-
  What the reference's half (chapter 2) answers: are digits, as a fraction, below a half, a half, above?
-/
import Derived.Test.YtdmfmiejjghfnaaDoorLst
namespace Go.Proofs.YtdmfmiejjghfnaaDoor
open Go.RowKit

/- are all but the first one 0? -/
def restZ (zs : List Int) : Bool := (List.range zs.length).all fun i => decide (i = 0) || decide (zs.getD i 0 = 0)
theorem restZ_t (zs : List Int) (h : ∀ i, 1 ≤ i → i < zs.length → zs.getD i 0 = 0) : restZ zs = true := by
  unfold restZ
  rw [List.all_eq_true]
  intro i hi
  rw [List.mem_range] at hi
  by_cases h0 : i = 0
  · simp [h0]
  · rw [h i (by omega) hi]; simp
theorem restZ_f (zs : List Int) (i : Nat) (h1 : 1 ≤ i) (h2 : i < zs.length) (h : zs.getD i 0 ≠ 0) : restZ zs = false := by
  unfold restZ
  rw [List.all_eq_false]
  refine ⟨i, List.mem_range.2 h2, ?_⟩
  rw [Bool.not_eq_true, Bool.or_eq_false_iff]
  exact ⟨decide_eq_false (by omega), decide_eq_false h⟩
def hfV (zs : List Int) : Int := if zs = [] ∨ zs.getD 0 0 < 5 then -1 else if 5 < zs.getD 0 0 then 1 else if restZ zs then 0 else 1

theorem half_core (a : Option Addr) (len cap : Nat) (zs : List Int) (w : World) (hl : zs.length = len) (h4 : len ≤ 4096) (hL : Lst w a zs) (V : Int) (hV : V = hfV zs) :
    Calls Tryd.prog 30 #[.slice a len cap] w fun e w' => e = .returned (.int .i64 V) ∧ w' = w := by
  have h5 : (len : Int) ≤ 4096 := by omega
  rcases hL with hz | ⟨b, off, rfl, hb, hcell⟩
  · obtain rfl : len = 0 := by rw [← hl, hz]; rfl
    obtain rfl : V = -1 := by rw [hV]; unfold hfV; rw [if_pos (Or.inl hz)]
    clear hV hl hz
    go_enter Tryd.func30, Tryd.ntmps30
    go_wp2
    go_ret
    exact ⟨rfl, rfl⟩
  by_cases h0 : len = 0
  · obtain rfl : V = -1 := by rw [hV]; unfold hfV; rw [if_pos (Or.inl (List.eq_nil_of_length_eq_zero (by omega)))]
    subst h0
    clear hV hl hcell
    go_enter Tryd.func30, Tryd.ntmps30
    go_wp2
    go_ret
    exact ⟨rfl, rfl⟩
  have hne : zs ≠ [] := by intro h; rw [h] at hl; simp at hl; omega
  have hc0 := hcell 0 (by omega)
  rw [Nat.add_zero] at hc0
  have hp : ((len : Int) == 0) = false := by rw [beq_eq_false_iff_ne]; omega
  have hp1 : (0 : Int) < (len : Int) := by omega
  obtain ⟨z, hz⟩ : ∃ z, zs.getD 0 0 = z := ⟨_, rfl⟩
  rw [hz] at hc0
  unfold hfV at hV
  rw [hz] at hV
  by_cases k1 : z < 5
  · obtain rfl : V = -1 := by rw [hV, if_pos (Or.inr k1)]
    clear hV hl hcell hz hne
    go_enter Tryd.func30, Tryd.ntmps30
    go_wp2
    go_ret
    exact ⟨rfl, rfl⟩
  rw [if_neg (by intro h; rcases h with h | h; exact hne h; exact k1 h)] at hV
  by_cases k2 : 5 < z
  · obtain rfl : V = 1 := by rw [hV, if_pos k2]
    clear hV hl hcell hz hne
    go_enter Tryd.func30, Tryd.ntmps30
    go_wp2
    go_ret
    exact ⟨rfl, rfl⟩
  rw [if_neg k2] at hV
  have HV := hide hV
  have HC := hide hcell
  have Hl := hide hl
  clear hV hl hcell hz hne
  go_enter Tryd.func30, Tryd.ntmps30
  go_wp2_with fail
  go_loop [3] (fun vi => ∃ k : Nat, vi = .int .i64 k ∧ Hid (1 ≤ k ∧ k ≤ len ∧ ∀ i, 1 ≤ i → i < k → zs.getD i 0 = 0)) (fun vi => len - (intOf vi).toNat)
  case atStart => exact ⟨1, rfl, hide ⟨by omega, by omega, fun i h1 h2 => absurd h2 (by omega)⟩⟩
  case round =>
    obtain ⟨k, rfl, HR⟩ := hrel
    have hk := HR.out.1
    by_cases hlt : k < len
    · have hlt' : (k : Int) < (len : Int) := by omega
      have hc := HC.out k (by have := Hl.out; omega)
      have hf := restZ_f zs k hk (by have := Hl.out; omega)
      obtain ⟨y, hy⟩ : ∃ y, zs.getD k 0 = y := ⟨_, rfl⟩
      rw [hy] at hc hf
      have HY := hide hy
      by_cases hy0 : y = 0
      · have f1 : (y != 0) = false := by simp [hy0]
        clear hf hy
        have HY0 := hide hy0
        clear hy0
        go_wp2
        go_round
        case rel =>
          refine ⟨k + 1, by go_num, hide ⟨by omega, by omega, fun i h1 h2 => ?_⟩⟩
          by_cases hik : i = k
          · rw [hik, HY.out, HY0.out]
          · exact HR.out.2.2 i h1 (by omega)
        case measure => simp [intOf]; omega
      · have f1 : (y != 0) = true := by rw [bne_iff_ne]; exact hy0
        obtain rfl : V = 1 := by rw [HV.out, hf hy0]; rfl
        clear hf hy HV hy0
        go_wp2
        go_ret
        exact ⟨rfl, rfl⟩
    · have hlt' : ¬ (k : Int) < (len : Int) := by omega
      obtain rfl : V = 0 := by
        rw [HV.out, restZ_t zs (fun i h1 h2 => HR.out.2.2 i h1 (by have := Hl.out; omega))]; rfl
      clear HV
      go_wp2
      go_ret
      exact ⟨rfl, rfl⟩
theorem half_any (a : Option Addr) (len cap : Nat) (zs : List Int) (w : World) (hl : zs.length = len) (h4 : len ≤ 4096) (hL : Lst w a zs) :
    Calls Tryd.prog 30 #[.slice a len cap] w fun e w' => e = .returned (.int .i64 (hfV zs)) ∧ w' = w :=
  half_core a len cap zs w hl h4 hL _ rfl
end Go.Proofs.YtdmfmiejjghfnaaDoor
