/-
  Rows of bytes that grow beside one another, as many as one likes.
-/
import Derived.Test.YthgpchjkeidilaaC11N
namespace Go.Proofs.Ythgpchjkeidilaa
open Go.RowKit Go.Deep
set_option linter.unusedVariables false

/- what an append to a row of the call's own leaves: the row's block is the old one or a new one, every other block is as it was -/
def Grew (W w2 : World) (B : Nat) (v v' : Value) (ys : List UInt8) : Prop :=
  BRow w2 B v' ys ∧ (v'.ownBlock = v.ownBlock ∨ v'.ownBlock = some W.heap.size) ∧ W.heap.size ≤ w2.heap.size ∧ (∀ k, k < W.heap.size → v.ownBlock ≠ some k → w2.heap[k]? = W.heap[k]?) ∧ Below B W w2
theorem app_s4 {W : World} {B : Nat} {v : Value} {ys : List UInt8} (s : ByteArray) (h : BRow W B v ys) (hB : B ≤ W.heap.size) (hl : ys.length + s.size ≤ 140737488355328) :
    ∃ v' w2, (Builtin.append_ #[36, 9] 36 #[v, .string s]).run Try.prog W = .ok v' w2 ∧ Grew W w2 B v v' (ys ++ s.data.toList) := by
  obtain ⟨i0, hi, hz0, hz1, hz2⟩ := info_parts5 info_u8
  obtain ⟨v', w2, hr, ho, hg, hnil⟩ := Lib.run_append_own_string (P := Try.prog) W B 36 9 36 5 i0 Try.underlying36 Try.underlying9 hi hz0 hz1 hz2 v ys.length (ys.map bcell) h s (by unfold maxLen; omega) hl hB
  refine ⟨v', w2, hr, ?_, ?_, hg.size, fun k hk hne => hg.block k hk (Ne.symm hne), (Below.refl B W).grown hg (by omega) fun k hk' => (World.ownsRow.lt h k hk').1⟩
  · unfold BRow
    rw [List.map_append, List.length_append, ← Lib.size_eq, ← strCells_b]
    exact ho
  · obtain ⟨hxl, ⟨rfl, h0⟩ | ⟨g, cap, cur, rfl, hbg, hgc, hnc, hcm, hcs, htake⟩⟩ := h
    · by_cases hm : s.size = 0
      · left
        rw [hnil.2 ⟨rfl, hm⟩]
      · right
        have hr2 := run_append_nil_string (P := Try.prog) W 36 9 36 5 i0 (.int .u8 0) Try.underlying36 Try.underlying9 hi hz0 s (by omega) (by omega) (by rw [hz2]; omega)
        rw [hr] at hr2
        rw [(Result.ok.inj hr2).1]; rfl
    · by_cases hroom : ys.length + s.size ≤ cap
      · left
        have hr2 := Lib.run_append_room_string (P := Try.prog) W 36 9 36 5 i0 Try.underlying36 Try.underlying9 hi hz1 g ys.length cap cur hgc s hroom (by omega)
        rw [hr] at hr2
        rw [(Result.ok.inj hr2).1]; rfl
      · right
        have hc : ∀ j u, (ys.map bcell)[j]? = some u → W.cell? ((⟨g, 0, none⟩ : Addr).add j) = some u := World.ownsRow.cells (g := g) (show W.ownsRow B 5 1 (.slice (some ⟨g, 0, none⟩) ys.length cap) ys.length (ys.map bcell) from ⟨hxl, Or.inr ⟨g, cap, cur, rfl, hbg, hgc, hnc, hcm, hcs, htake⟩⟩) rfl
        have hr2 := Lib.run_append_grow_string (P := Try.prog) W 36 9 36 5 i0 (.int .u8 0) Try.underlying36 Try.underlying9 hi hz0 ⟨g, 0, none⟩ ys.length cap (ys.map bcell) (by rw [hz1]; simp) hc s (by omega) (by omega) (by rw [hz2]; exact growslice_fits (by omega) (by omega))
        rw [hr] at hr2
        rw [(Result.ok.inj hr2).1]; rfl
theorem app_b4 {W : World} {B : Nat} {v : Value} {ys : List UInt8} (news : List UInt8) (h : BRow W B v ys) (hB : B ≤ W.heap.size) (hm : 0 < news.length) (hl : ys.length + news.length ≤ 140737488355328) (H : Nat) (hH : W.heap.size = H) :
    ∃ v' w2, (Builtin.append_ #[36, 36] 36 #[v, .slice (some ⟨H, 0, none⟩) news.length news.length]).run Try.prog (W.alloc (.cells (news.map bcell).toArray 5)) = .ok v' w2 ∧
      Grew (W.alloc (.cells (news.map bcell).toArray 5)) w2 B v v' (ys ++ news) := by
  obtain ⟨i0, hi, hz0, hz1, hz2⟩ := info_parts5 info_u8
  subst hH
  have hB' : B ≤ (W.alloc (.cells (news.map bcell).toArray 5)).heap.size := by simp; omega
  obtain ⟨g, cap, w2, hr, ho, hg, hat, _⟩ := run_append_lies (P := Try.prog) (W.alloc (.cells (news.map bcell).toArray 5)) 36 36 B 5 i0 _ 1 1 Try.underlying36 hi hz0 hz1 hz2 rfl (by decide) v ys.length (ys.map bcell) (World.ownsRow.alloc h _) ⟨W.heap.size, 0, none⟩ news.length news.length (news.map bcell) (by simp)
    (fun j u hu => by rw [Go.WideShapes.add_plain, Nat.zero_add, World.cell?_alloc_at _ _ _ _ rfl]; simpa using hu) (bcells_one _) hm (by unfold maxLen; omega) (by omega) hB' _ rfl
  refine ⟨_, w2, hr, ?_, ?_, hg.size, fun k hk hne => hg.block k hk (Ne.symm hne), (Below.refl B _).grown hg hB' fun k hk' => (World.ownsRow.lt h k hk').1⟩
  · unfold BRow
    rw [List.map_append, List.length_append]
    exact ho
  · rcases hat with hat | hat
    · exact Or.inl (by rw [hat]; rfl)
    · exact Or.inr (by rw [hat]; rfl)
theorem BRow.keep {w w' : World} {B : Nat} {v : Value} {ys : List UInt8} (h : BRow w B v ys) (hk : ∀ k, v.ownBlock = some k → k < w.heap.size → w'.heap[k]? = w.heap[k]?) : BRow w' B v ys := by
  obtain ⟨h1, h2 | ⟨g, cap, cur, hv, hg, hh, hr⟩⟩ := h
  · exact ⟨h1, Or.inl h2⟩
  · have hlt : g < w.heap.size := by
      rcases Nat.lt_or_ge g w.heap.size with h | h
      · exact h
      · rw [Array.getElem?_eq_none h] at hh; simp at hh
    exact ⟨h1, Or.inr ⟨g, cap, cur, hv, hg, by rw [hk g (by rw [hv]; rfl) hlt]; exact hh, hr⟩⟩
def BN (w u : World) (L : List (Value × List UInt8)) : Prop := Below w.heap.size w u ∧ (∀ p ∈ L, BRow u w.heap.size p.1 p.2) ∧ L.Pairwise (fun p q => Apart p.1 q.1)
theorem BN.later {w u u' : World} {L : List (Value × List UInt8)} (h : BN w u L) (hb : Below u.heap.size u u') : BN w u' L := ⟨h.1.trans (hb.mono h.1.size), fun p hp => (h.2.1 p hp).later hb, h.2.2⟩
theorem BN.rot {w u : World} {L : List (Value × List UInt8)} {x : Value × List UInt8} (h : BN w u (x :: L)) : BN w u (L ++ [x]) := by
  obtain ⟨h1, h2, h3⟩ := h
  rw [List.pairwise_cons] at h3
  refine ⟨h1, fun p hp => ?_, ?_⟩
  · rcases List.mem_append.1 hp with hp | hp
    · exact h2 p (List.mem_cons_of_mem _ hp)
    · simp at hp; subst hp; exact h2 _ List.mem_cons_self
  · rw [List.pairwise_append]
    refine ⟨h3.2, by simp, fun a ha b hb => ?_⟩
    simp at hb
    subst hb
    exact (h3.1 a ha).symm
theorem BN.grew {w u w2 : World} {v v' : Value} {ys zs : List UInt8} {L : List (Value × List UInt8)} (h : BN w u ((v, ys) :: L)) (hg : Grew u w2 w.heap.size v v' zs) : BN w w2 ((v', zs) :: L) := by
  obtain ⟨h1, h2, h3⟩ := h
  obtain ⟨g1, g2, g3, g4, g5⟩ := hg
  rw [List.pairwise_cons] at h3
  refine ⟨h1.trans g5, fun p hp => ?_, ?_⟩
  · rcases List.mem_cons.1 hp with rfl | hp
    · exact g1
    · exact (h2 p (List.mem_cons_of_mem _ hp)).keep (fun k hk hl => g4 k hl (fun e => h3.1 p hp k e hk))
  · rw [List.pairwise_cons]
    refine ⟨fun p hp k e1 e2 => ?_, h3.2⟩
    rcases g2 with g2 | g2
    · rw [g2] at e1; exact h3.1 p hp k e1 e2
    · rw [g2] at e1
      injection e1 with e1
      have := (World.ownsRow.lt (h2 p (List.mem_cons_of_mem _ hp)) k e2).2
      omega
theorem BN.hd {w u : World} {v : Value} {ys : List UInt8} {L : List (Value × List UInt8)} (h : BN w u ((v, ys) :: L)) : BRow u w.heap.size v ys := h.2.1 _ List.mem_cons_self
end Go.Proofs.Ythgpchjkeidilaa
