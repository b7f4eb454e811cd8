/-
  What the draft of hmtx answers.
-/
import Derived.Test.YtkdnoemakclmdaaM9Tab
namespace Go.Proofs.Ytkdnoemakclmdaa
open Go.RowKit Go.Deep
set_option linter.unusedVariables false

def ilv (ad be : List Int) (k : Nat) : List Int := (List.range k).flatMap fun i => [ad.getD i 0, be.getD i 0]
theorem ilv_succ (ad be : List Int) (k : Nat) : ilv ad be (k + 1) = ilv ad be k ++ [ad.getD k 0, be.getD k 0] := by
  unfold ilv; rw [List.range_succ, List.flatMap_append]; simp
theorem ilv_len (ad be : List Int) : ∀ k, (ilv ad be k).length = 2 * k
  | 0 => rfl
  | k + 1 => by rw [ilv_succ, List.length_append, ilv_len ad be k]; simp; omega
theorem putL_app : ∀ (a b : List Int) (ys : List UInt8) (k : Nat), putL ys k (a ++ b) = putL (putL ys k a) (k + 2 * a.length) b
  | [], b, ys, k => rfl
  | x :: a, b, ys, k => by rw [List.cons_append, putL, putL, putL_app a b, List.length_cons, show k + 2 + 2 * a.length = k + 2 * (a.length + 1) by omega]
def hmT (ad be : List Int) (n : Nat) : List UInt8 := putL (zers (4 * n)) 0 (ilv ad be n)
set_option maxRecDepth 8000 in
set_option maxHeartbeats 4000000 in
theorem hmx_any (m : Mt) (aa ab : Option Addr) (n ca cb : Nat) (w : World) (hma : n ≤ 20000) (hA : m.ad.length = n) (hB : m.be.length = n) (hLA : Lst w aa m.ad) (hLB : Lst w ab m.be)
    (hxa : ∀ x ∈ m.ad, -4611686018427387904 ≤ x ∧ x ≤ 4611686018427387904) (hxb : ∀ x ∈ m.be, -4611686018427387904 ≤ x ∧ x ≤ 4611686018427387904) :
    Calls Try.prog 15 #[.agg (mcs m (.slice aa n ca) (.slice ab n cb))] w fun e w' => ∃ g, e = .returned (.slice (some ⟨g, 0, none⟩) (4 * n) (4 * n)) ∧ Blk w' g (bcs (hmT m.ad m.be n)) 5 ∧ w.heap.size ≤ g ∧ Below w.heap.size w w' := by
  obtain ⟨up, sc, de, ga, b0, b1, b2, b3, lg, ad, be⟩ := m
  have hma' : (n : Int) ≤ 20000 := by omega
  have h0' : (0 : Int) ≤ (n : Int) := by omega
  obtain ⟨N, hN⟩ : ∃ N : Nat, N = 4 * n := ⟨_, rfl⟩
  have MK : ∀ x : World, (Instr.makeSlice 43 (.int .i64 (4 * (n : Int))) (.int .i64 (4 * (n : Int)))).run Try.prog x = .ok (.slice (some ⟨x.heap.size, 0, none⟩) N N) (x.alloc (.cells (bcs (zers N)) 5)) := fun x => by
    have := make_bytes N (by omega) x
    rw [show ((N : Nat) : Int) = 4 * (n : Int) by omega] at this
    exact this
  have k1 := Blk.new w (mcs ⟨up, sc, de, ga, b0, b1, b2, b3, lg, ad, be⟩ (.slice aa n ca) (.slice ab n cb)) 25
  have b1' := (Below.refl w.heap.size w).alloc (Nat.le_refl _) (.cells (mcs ⟨up, sc, de, ga, b0, b1, b2, b3, lg, ad, be⟩ (.slice aa n ca) (.slice ab n cb)) 25)
  have HA := hide (And.intro hA (And.intro hB (And.intro hLA hLB)))
  have HX := hide (And.intro hxa hxb)
  have HM := hide hma
  have HNN := hide hN
  simp only [mcs] at k1 b1' ⊢
  simp only at HA HX
  clear hma hA hB hLA hLB hxa hxb hN
  rw [← HNN.out]
  go_enter Try.func15, Try.ntmps15
  go_wp2_with fail
  have k2 := Blk.new (w.alloc (.cells #[.int .i64 up, .int .i64 sc, .int .i64 de, .int .i64 ga, .int .i64 b0, .int .i64 b1, .int .i64 b2, .int .i64 b3, .bool lg, .slice aa n ca, .slice ab n cb] 25)) (bcs (zers N)) 5
  have bb2 := (Below.refl (w.alloc (.cells #[.int .i64 up, .int .i64 sc, .int .i64 de, .int .i64 ga, .int .i64 b0, .int .i64 b1, .int .i64 b2, .int .i64 b3, .bool lg, .slice aa n ca, .slice ab n cb] 25)).heap.size (w.alloc (.cells #[.int .i64 up, .int .i64 sc, .int .i64 de, .int .i64 ga, .int .i64 b0, .int .i64 b1, .int .i64 b2, .int .i64 b3, .bool lg, .slice aa n ca, .slice ab n cb] 25))).alloc (Nat.le_refl _) (.cells (bcs (zers N)) 5)
  have z2 : (w.alloc (.cells #[.int .i64 up, .int .i64 sc, .int .i64 de, .int .i64 ga, .int .i64 b0, .int .i64 b1, .int .i64 b2, .int .i64 b3, .bool lg, .slice aa n ca, .slice ab n cb] 25)).heap.size = w.heap.size + 1 := by simp
  rw [z2] at k2
  have HK := hide (k1.below bb2)
  have HG := hide k2
  have HO := hide (below_t5 b1' bb2)
  clear k1 b1' k2 bb2 z2 MK
  generalize (w.alloc (.cells #[.int .i64 up, .int .i64 sc, .int .i64 de, .int .i64 ga, .int .i64 b0, .int .i64 b1, .int .i64 b2, .int .i64 b3, .bool lg, .slice aa n ca, .slice ab n cb] 25)).alloc (.cells (bcs (zers N)) 5) = W0 at HK HG HO ⊢
  have HN : Hid (w.heap.size ≤ w.heap.size ∧ w.heap.size ≤ w.heap.size + 1 ∧ w.heap.size ≠ w.heap.size + 1) := hide ⟨by omega, by omega, by omega⟩
  obtain ⟨g, hg⟩ : ∃ g, w.heap.size + 1 = g := ⟨_, rfl⟩
  rw [hg] at HG HN ⊢
  obtain ⟨x, hx⟩ : ∃ x, w.heap.size = x := ⟨_, rfl⟩
  have HN' : Hid (w.heap.size ≤ x ∧ w.heap.size ≤ g ∧ x ≠ g) := hide ⟨by omega, HN.out.2.1, by have := HN.out; omega⟩
  rw [hx] at HK ⊢
  clear HN hg hx
  go_loopw [14] (fun vi wr => ∃ (k : Nat), vi = .int .i64 k ∧ Hid (k ≤ n ∧ Blk wr g (bcs (putL (zers N) 0 (ilv ad be k))) 5 ∧ Blk wr x #[.int .i64 up, .int .i64 sc, .int .i64 de, .int .i64 ga, .int .i64 b0, .int .i64 b1, .int .i64 b2, .int .i64 b3, .bool lg, .slice aa n ca, .slice ab n cb] 25 ∧ Below w.heap.size w wr)) (fun vi _ => n - (intOf vi).toNat)
  case atStart => exact ⟨0, rfl, hide ⟨by omega, HG.out, HK.out, HO.out⟩⟩
  case round =>
    clear HG HK HO
    obtain ⟨k, rfl, HV⟩ := hrel
    obtain ⟨hk, hg, hkk, ho⟩ := HV.out
    have hk0 : (0 : Int) ≤ (k : Int) := by omega
    have HG := hide hg
    have HK := hide hkk
    have HO := hide ho
    clear HV
    by_cases hlt : k < n
    case neg =>
      have hlt' : ¬ (k : Int) < (n : Int) := by omega
      obtain rfl : k = n := by omega
      clear hg hkk ho hlt
      go_wp2_with fail
      go_ret
      refine ⟨g, rfl, ?_, HN'.out.2.1, HO.out⟩
      have := HG.out
      rw [HNN.out] at this
      exact this
    have hlt' : (k : Int) < (n : Int) := by omega
    obtain ⟨e1, e2, e3, e4⟩ := HA.out
    rcases e3.below ho with hz | ⟨p, po, rfl, hp, hcp⟩
    · rw [hz] at e1; simp at e1; omega
    rcases e4.below ho with hz | ⟨q, qo, rfl, hq, hcq⟩
    · rw [hz] at e2; simp at e2; omega
    have hc1 := hcp k (by omega)
    have hc2 := hcq k (by omega)
    have hxx := HX.out.1 (ad.getD k 0) (by rw [List.getD_eq_getElem?_getD, List.getElem?_eq_getElem (by omega)]; exact List.getElem_mem _)
    have hyy := HX.out.2 (be.getD k 0) (by rw [List.getD_eq_getElem?_getD, List.getElem?_eq_getElem (by omega)]; exact List.getElem_mem _)
    have c9 := hkk.cell 9
    have c10 := hkk.cell 10
    simp at c9 c10
    have xlt := hkk.lt
    have glt := hg.lt
    have hlen : (putL (zers N) 0 (ilv ad be k)).length = N := by rw [putL_len]; simp [zers]
    have E : Hid (putL (putL (zers N) 0 (ilv ad be k)) (4 * k) [ad.getD k 0, be.getD k 0] = putL (zers N) 0 (ilv ad be (k + 1))) := hide (by
      rw [ilv_succ, putL_app, ilv_len, show 0 + 2 * (2 * k) = 4 * k by omega])
    have hkN : 4 * k + 2 * 2 ≤ N := by have := HNN.out; omega
    have hNm : N ≤ 1000000 := by have := HNN.out; have := HM.out; omega
    generalize ad.getD k 0 = X at hc1 hxx E
    generalize be.getD k 0 = Y at hc2 hyy E
    generalize putL (zers N) 0 (ilv ad be k) = T at HG hg E hlen
    have CP := hide (fun (H : Nat) (hH : wr.heap.size = H) => put_new g T (4 * (k : Int)) (4 * k) [X, Y] N 2 H wr (by omega) hlen rfl hkN hNm (fun x hx => by simp at hx; rcases hx with rfl | rfl; exact hxx; exact hyy) hg hH)
    clear hg hkk ho hcp hcq hlen e1 e2 e3 e4 hxx hyy hkN hNm
    go_wp2_with fail
    refine (CP.out _ rfl).mono ?_
    rintro e W1 ⟨rfl, hB, hO⟩
    have HB1 := hide hB
    have HO1 := hide hO
    clear hB hO hc1 hc2 c9 c10
    go_wp2_with fail
    go_roundw
    case rel => exact ⟨k + 1, by go_num, hide ⟨by omega, E.out ▸ HB1.out, HO1.out.blk HK.out HN'.out.2.2, HO1.out.below HO.out HN'.out.2.1⟩⟩
    case measure => simp [intOf]; omega
end Go.Proofs.Ytkdnoemakclmdaa
