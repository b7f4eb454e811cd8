/-
  Joined: S13I.
-/
import Derived.Test.YthnpnkiomknkeaaDoorC22
import Derived.Test.YthnpnkiomknkeaaDoorC27
import Derived.Test.YthnpnkiomknkeaaDoorC28
namespace Go.Proofs.YthnpnkiomknkeaaDoor.S13
open Go.RowKit Go.Deep Go.Maps Go.Proofs.YthnpnkiomknkeaaDoor.F12
set_option linter.unusedVariables false
set_option linter.unusedSimpArgs false
def InsR (zs : List Int) (w : World) (e : Ending) (w' : World) : Prop := ∃ g c', e = .returned (.slice (some ⟨g, 0, none⟩) (zs.take 300).length c') ∧ Lst w' (some ⟨g, 0, none⟩) (zs.take 300) ∧ Below w.heap.size w w' ∧ (zs.take 300).length ≤ c' ∧ c' ≤ 9223372036854775807
theorem ints_any (a : Option Addr) (n c : Nat) (zs : List Int) (w : World) (hn : zs.length = n) (hc : n ≤ c) (hc2 : c ≤ 9223372036854775807) (hL : Lst w a zs) :
    Calls Tryd.prog 7 #[.slice a n c, .int .i64 300] w (InsR zs w) := by
  obtain ⟨g, c', w1, hr, l1, _, b1, hcc⟩ := app_copyI w a (zs.take 300).length c w.heap.size (zs.take 300) rfl (by rw [List.length_take]; omega) (hL.take 300) rfl
  have HRU := hide hr
  have HF : Hid (InsR zs w (.returned (.slice (some ⟨g, 0, none⟩) (zs.take 300).length c')) w1) := hide ⟨g, c', rfl, l1, b1, hcc.1, hcc.2⟩
  have hlt : (zs.take 300).length = min 300 n := by rw [List.length_take, hn]
  generalize (zs.take 300).length = k at HRU HF hlt
  clear hr l1 b1 hcc hL
  by_cases h : 300 < n
  · have h' : (300 : Int) < (n : Int) := by omega
    have hk : k = 300 := by omega
    subst hk
    have h1 : (300 : Int) ≤ (c : Int) := by omega
    clear hlt h
    go_enter Tryd.func7, Tryd.ntmps7
    go_wp2_with (at_builtin; refine Lib.wpList_append_run _ rfl _ _ _ _ rfl _ _ rfl rfl _ _ HRU.out ?_)
    go_ret
    exact HF.out
  · have h' : ¬ (300 : Int) < (n : Int) := by omega
    have hk : k = n := by omega
    subst hk
    clear hlt h
    go_enter Tryd.func7, Tryd.ntmps7
    go_wp2_with (at_builtin; refine Lib.wpList_append_run _ rfl _ _ _ _ rfl _ _ rfl rfl _ _ HRU.out ?_)
    go_ret
    exact HF.out
def ZRow (w : World) (a : Option Addr) (len cap : Nat) (zs : List Int) : Prop := zs.length = len ∧ len ≤ cap ∧ cap ≤ 9223372036854775807 ∧ Lst w a zs ∧ ∀ n ∈ zs, -9223372036854775808 ≤ n ∧ n ≤ 9223372036854775807
theorem cell_lt3 {w : World} {b o : Nat} {v : Value} (h : w.cell? ⟨b, o, none⟩ = some v) : b < w.heap.size := by
  by_cases hb : b < w.heap.size
  · exact hb
  · unfold World.cell? at h
    rw [Array.getElem?_eq_none (by show w.heap.size ≤ b; omega)] at h
    simp at h
section
open Go.ChangeShapes Go.WideShapes
variable {H : Type} {enc : TypeId × Value → H} {W : World} {r : Reach} {base b0 : Nat} {sp : Nat → Bool} {held : Bool} {v : Value} {d : DataW H} {p : List MemPlace}
set_option maxRecDepth 100000 in
theorem open_zs (hv : Value.okWide Tryd.prog W r b0 23 v) (h : DataW.Trod enc Tryd.prog W base sp held 23 v d p) :
    ∃ a len cap zs, v = .slice a len cap ∧ ZRow W a len cap zs := by
  obtain ⟨a, len, cap, rfl⟩ := okWide_slice Tryd.underlying23 hv
  obtain ⟨fuel, hf⟩ := h
  rcases open_ints Tryd.underlying23 Tryd.underlying3 (by kernel_rfl) hf with ⟨hcs, _⟩ | ⟨x, len', cap', zs, hcs, _, hl, hm, hzl, _, hc, hw⟩
  · simp [Value.cells] at hcs
    obtain ⟨rfl, rfl, rfl⟩ := hcs
    exact ⟨none, 0, 0, [], rfl, rfl, by omega, by omega, Or.inl rfl, by simp⟩
  · simp [Value.cells] at hcs
    obtain ⟨rfl, rfl, rfl⟩ := hcs
    have hlz : len ≤ zs.length := by rw [hzl]; split <;> omega
    refine ⟨some x, len, cap, zs.take len, rfl, by rw [List.length_take]; omega, hl, by unfold maxLen at hm; exact hm, ?_, fun n hn => bounds_i64 (hw n (List.mem_of_mem_take hn))⟩
    by_cases hz : zs.length = 0
    · rw [List.eq_nil_of_length_eq_zero hz]; exact Or.inl (by simp)
    · obtain ⟨b, off, rfl, hc'⟩ := Go.ints_at hc (by omega)
      have : Lst W (some ⟨b, off, none⟩) zs := Or.inr ⟨b, off, rfl, cell_lt3 (hc' 0 (by omega)), hc'⟩
      exact this.take len
end
def RV (m : Mt) (gs : List ByteArray) (cs : List C11.Ch) (zs : List Int) (n : Nat) (L : List Int) (er : Int) : Prop :=
  (ckV m gs cs ≠ 0 ∧ L = [] ∧ er = ckV m gs cs) ∨ (ckV m gs cs = 0 ∧ usV zs n = none ∧ L = [] ∧ er = 1) ∨
  (∃ pss us o, ckV m gs cs = 0 ∧ cpV gs = some pss ∧ usV zs n = some us ∧ Cls pss (0 :: us) n o ∧ L = G10.ints (plV o n) ∧ er = 0)
theorem RV.uniq {m : Mt} {gs : List ByteArray} {cs : List C11.Ch} {zs : List Int} {n : Nat} {L L' : List Int} {er er' : Int} (h : RV m gs cs zs n L er) (k : RV m gs cs zs n L' er') : L = L' ∧ er = er' := by
  rcases h with ⟨h1, rfl, rfl⟩ | ⟨h1, h2, rfl, rfl⟩ | ⟨pss, us, o, h1, h2, h3, h4, rfl, rfl⟩
  · rcases k with ⟨_, rfl, rfl⟩ | ⟨k1, _⟩ | ⟨_, _, _, k1, _⟩
    · exact ⟨rfl, rfl⟩
    · exact absurd k1 h1
    · exact absurd k1 h1
  · rcases k with ⟨k1, _⟩ | ⟨_, _, rfl, rfl⟩ | ⟨_, _, _, _, _, k3, _⟩
    · exact absurd h1 k1
    · exact ⟨rfl, rfl⟩
    · rw [h2] at k3; cases k3
  · rcases k with ⟨k1, _⟩ | ⟨_, k2, _⟩ | ⟨pss', us', o', _, k2, k3, k4, rfl, rfl⟩
    · exact absurd h1 k1
    · rw [h3] at k2; cases k2
    · rw [h2] at k2
      injection k2 with k2
      subst k2
      rw [h3] at k3
      injection k3 with k3
      subst k3
      rw [h4.uniq k4]
      exact ⟨rfl, rfl⟩
theorem RV.len {m : Mt} {gs : List ByteArray} {cs : List C11.Ch} {zs : List Int} {n : Nat} {L : List Int} {er : Int} (h : RV m gs cs zs n L er) : L.length ≤ n := by
  rcases h with ⟨_, rfl, _⟩ | ⟨_, _, rfl, _⟩ | ⟨_, _, o, _, _, _, _, rfl, _⟩
  · simp
  · simp
  · rw [G10.ints_len]; exact plV_len o n
def CvR (m : Mt) (gs : List ByteArray) (cs : List C11.Ch) (zs : List Int) (n : Nat) (w : World) (e : Ending) (w' : World) : Prop := ∃ L er a cap, e = .returned (.tuple #[.slice a L.length cap, .int .i64 er]) ∧ RV m gs cs zs n L er ∧ Lst w' a L ∧ Below w.heap.size w w'
theorem cv_of {m : Mt} {gs : List ByteArray} {cs : List C11.Ch} {zs : List Int} {n : Nat} {w : World} {e : Ending} {w' : World} (h : CloR m gs cs zs n w e w') : CvR m gs cs zs n w e w' := by
  obtain ⟨hb, ⟨h1, rfl⟩ | ⟨h1, h2, rfl⟩ | ⟨pss, us, o, v, h1, h2, h3, h4, rfl, h5⟩⟩ := h
  · exact ⟨[], _, none, 0, rfl, Or.inl ⟨h1, rfl, rfl⟩, Or.inl rfl, hb⟩
  · exact ⟨[], 1, none, 0, rfl, Or.inr (Or.inl ⟨h1, h2, rfl, rfl⟩), Or.inl rfl, hb⟩
  · obtain ⟨a, cap, rfl, hl, _⟩ := h5.lst
    exact ⟨_, 0, a, cap, rfl, Or.inr (Or.inr ⟨pss, us, o, h1, h2, h3, h4, rfl, rfl⟩), hl, hb⟩
end Go.Proofs.YthnpnkiomknkeaaDoor.S13
