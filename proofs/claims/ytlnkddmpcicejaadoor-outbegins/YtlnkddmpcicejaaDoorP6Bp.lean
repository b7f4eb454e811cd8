/-
  Where the entries stand in the text that Write answers, in plain words.
-/
import Derived.Test.YtlnkddmpcicejaaDoorP6Bd
namespace Go.Proofs.YtlnkddmpcicejaaDoor
open Go.RowKit Go.Deep
set_option linter.unusedVariables false

theorem lyE_okF {l : List EP} {root : Int} (h : lyE l root = 0) : ∃ q, layG 0 l hdrT [] = some q ∧ lyZ l root = q.2 ++ [(q.1.length : Int)] ∧ lyF l root = q.1 ++ tabT q.2 ++ trlT ((q.2.length : Int) + 1) root q.1.length ∧ (lyF l root).length ≤ 16777216 := by
  unfold lyE at h
  split at h
  · contradiction
  · rename_i hc
    split at h
    · rename_i hs
      unfold lyZ lyF
      rw [if_neg hc, if_neg hc]
      unfold layV at hs ⊢
      cases hG : layG 0 l hdrT [] with
      | none => rw [hG] at hs; simp at hs
      | some q =>
        obtain ⟨F, zs⟩ := q
        rw [hG] at hs
        simp only at hs ⊢
        split at hs
        · rename_i h3
          refine ⟨(F, zs), rfl, ?_, ?_, ?_⟩
          · rw [if_pos h3]
          · rw [if_pos h3]
          · rw [if_pos h3]; exact h3
        · simp at hs
    · omega
theorem lyE_badF {l : List EP} {root : Int} (h : lyE l root ≠ 0) : lyF l root = [] ∧ (lyE l root = ckV l root ∨ lyE l root = 2) := by
  unfold lyE at h ⊢
  unfold lyF
  split at h
  · rename_i hc; rw [if_pos hc, if_pos hc]; exact ⟨rfl, Or.inl rfl⟩
  · rename_i hc
    rw [if_neg hc, if_neg hc]
    split at h
    · exact absurd rfl h
    · rename_i hs
      rw [if_neg hs]
      cases hV : layV l root with
      | none => exact ⟨rfl, Or.inr rfl⟩
      | some q => rw [hV] at hs; simp at hs
theorem ly_at {l : List EP} {root : Int} (h : lyE l root = 0) : (lyZ l root).length = l.length + 1 ∧ (lyF l root).length ≤ 16777216 ∧
    ∀ i, i < l.length + 1 → ∃ pre post, lyF l root = pre ++ wnT l.length i ++ post ∧ (lyZ l root).getD i 0 = (pre.length : Int) ∧ 15 ≤ pre.length ∧ (0 < i → (lyZ l root).getD (i - 1) 0 < (pre.length : Int)) := by
  obtain ⟨q, hq, hz, hf, hb⟩ := lyE_okF h
  obtain ⟨G, ys, e1, e2, e3, e4, e5⟩ := layG_at l 0 hdrT [] q hq
  simp only [List.nil_append] at e2
  have hlen : (lyZ l root).length = l.length + 1 := by rw [hz, e2]; simp [e3]
  refine ⟨hlen, hb, fun i hi => ?_⟩
  have hgd : ∀ j, j < l.length → (lyZ l root).getD j 0 = ys.getD j 0 := fun j hj => by
    rw [hz, e2, List.getD_eq_getElem?_getD, List.getD_eq_getElem?_getD, List.getElem?_append_left (by omega)]
  rcases Nat.lt_or_ge i l.length with h1 | h1
  · obtain ⟨pre, post, g1, g2, g3, g4⟩ := e4 i h1
    refine ⟨pre, post ++ tabT q.2 ++ trlT ((q.2.length : Int) + 1) root q.1.length, ?_, by rw [hgd i h1]; exact g2, by simp [hdrT] at g3; omega, fun h0 => by rw [hgd (i - 1) (by omega)]; exact g4 h0⟩
    rw [hf]
    rw [show q.1 = pre ++ (Lib.itoa ((0 + i + 1 : Nat) : Int) ++ hdW) ++ post from e1.trans g1]
    unfold wnT
    rw [if_pos h1, show ((0 + i + 1 : Nat) : Int) = (i : Int) + 1 by omega]
    simp
  · have hi' : i = l.length := by omega
    subst hi'
    have htab : ∃ t, tabT q.2 = [120, 114, 101, 102, 10] ++ t := ⟨[48, 32] ++ Lib.itoa ((q.2.length : Int) + 1) ++ [10] ++ [48, 48, 48, 48, 48, 48, 48, 48, 48, 48] ++ [32, 54, 53, 53, 51, 53, 32, 102, 32, 10] ++ q.2.flatMap rowT, by unfold tabT; simp⟩
    obtain ⟨t, ht⟩ := htab
    refine ⟨q.1, t ++ trlT ((q.2.length : Int) + 1) root q.1.length, ?_, ?_, by rw [e1]; simp [hdrT], fun h0 => by rw [hgd _ (by omega), e1]; exact e5 h0⟩
    · rw [hf]
      unfold wnT
      rw [if_neg (by omega)]
      simp only [ht]
      simp
    · rw [hz, e2, List.getD_eq_getElem?_getD, List.getElem?_append_right (by omega)]
      simp [e3]
theorem cut_at {S : ByteArray} {F pre W post : List UInt8} (hS : S = ⟨F.toArray⟩) (h : F = pre ++ W ++ post) : pre.length + W.length ≤ S.size ∧ S.extract pre.length (pre.length + W.length) = ⟨W.toArray⟩ := by
  subst hS
  subst h
  refine ⟨by rw [Lib.size_eq]; simp, ?_⟩
  apply ByteArray.ext
  rw [← Array.toList_inj, ByteArray.data_extract, Array.toList_extract, List.extract_eq_take_drop]
  simp
end Go.Proofs.YtlnkddmpcicejaaDoor
