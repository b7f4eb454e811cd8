/-
  Metrics as a value; what the landed Good answers.
-/
import Derived.Test.YtkdnoemakclmdaaM9Put
namespace Go.Proofs.Ytkdnoemakclmdaa
open Go.RowKit Go.Deep
set_option linter.unusedVariables false

structure Mt where
  up : Int
  sc : Int
  de : Int
  ga : Int
  b0 : Int
  b1 : Int
  b2 : Int
  b3 : Int
  lg : Bool
  ad : List Int
  be : List Int
def mcs (m : Mt) (va vb : Value) : Array Value :=
  #[.int .i64 m.up, .int .i64 m.sc, .int .i64 m.de, .int .i64 m.ga, .int .i64 m.b0, .int .i64 m.b1, .int .i64 m.b2, .int .i64 m.b3, .bool m.lg, va, vb]
def goodB (m : Mt) : Bool :=
  wiB 16 16384 [m.up] && (wiB (-32768) 32767 [m.sc, m.de, m.ga] && (wiB (-32768) 32767 [m.b0, m.b1, m.b2, m.b3] && (wiB 1 4096 [(m.ad.length : Int)] && (((m.be.length : Int) == (m.ad.length : Int)) && (wiB 0 65535 m.ad && wiB (-32768) 32767 m.be)))))
theorem lst_new (W : World) (zs : List Int) (H : Nat) (hH : W.heap.size = H) : Lst (W.alloc (.cells (zs.map (Value.int .i64)).toArray 3)) (some ⟨H, 0, none⟩) zs := by
  subst hH
  refine Or.inr ⟨W.heap.size, 0, rfl, by simp, fun i hi => ?_⟩
  rw [World.cell?_alloc_at _ _ _ _ rfl, Nat.zero_add]
  simp [hi, List.getD_eq_getElem?_getD]
theorem lst_box {w : World} {b : Nat} {m : Mt} {va vb : Value} (h : Blk w b (mcs m va vb) 25) : Lst w (some ⟨b, 4, none⟩) [m.b0, m.b1, m.b2, m.b3] := by
  refine Or.inr ⟨b, 4, rfl, h.lt, fun i hi => ?_⟩
  rw [h.cell (4 + i)]
  match i, hi with
  | 0, _ => rfl
  | 1, _ => rfl
  | 2, _ => rfl
  | 3, _ => rfl
set_option maxHeartbeats 4000000 in
theorem good_any (m : Mt) (aa ab : Option Addr) (na nb ca cb : Nat) (w : World) (hna : m.ad.length = na) (hnb : m.be.length = nb) (hma : na ≤ 1000000) (hmb : nb ≤ 1000000) (hA : Lst w aa m.ad) (hB : Lst w ab m.be) :
    Calls Try.prog 11 #[.agg (mcs m (.slice aa na ca) (.slice ab nb cb))] w fun e w' => e = .returned (.bool (goodB m)) ∧ Below w.heap.size w w' := by
  obtain ⟨up, sc, de, ga, b0, b1, b2, b3, lg, ad, be⟩ := m
  have hma' : (na : Int) ≤ 1000000 := by omega
  have hmb' : (nb : Int) ≤ 1000000 := by omega
  have E := hide (show goodB ⟨up, sc, de, ga, b0, b1, b2, b3, lg, ad, be⟩ = (wiB 16 16384 [up] && (wiB (-32768) 32767 [sc, de, ga] && (wiB (-32768) 32767 [b0, b1, b2, b3] && (wiB 1 4096 [(na : Int)] && (((nb : Int) == (na : Int)) && (wiB 0 65535 ad && wiB (-32768) 32767 be)))))) by unfold goodB; simp only at hna hnb; simp only [hna, hnb])
  have HA := hide hA
  have HB := hide hB
  have HN := hide (And.intro hna (And.intro hnb (And.intro hma hmb)))
  have b1' := (Below.refl w.heap.size w).alloc (Nat.le_refl _) (.cells (mcs ⟨up, sc, de, ga, b0, b1, b2, b3, lg, ad, be⟩ (.slice aa na ca) (.slice ab nb cb)) 25)
  have k1 := Blk.new w (mcs ⟨up, sc, de, ga, b0, b1, b2, b3, lg, ad, be⟩ (.slice aa na ca) (.slice ab nb cb)) 25
  have z1 : (w.alloc (.cells (mcs ⟨up, sc, de, ga, b0, b1, b2, b3, lg, ad, be⟩ (.slice aa na ca) (.slice ab nb cb)) 25)).heap.size = w.heap.size + 1 := by simp
  have HB1 := hide b1'
  have HK1 := hide k1
  have HZ1 := hide z1
  clear hA hB hna hnb hma hmb b1' k1 z1
  simp only [mcs] at HB1 HK1 HZ1 ⊢
  go_enter Try.func11, Try.ntmps11
  go_wp2_with fail
  rw [← HZ1.out]
  generalize w.alloc (.cells #[.int .i64 up, .int .i64 sc, .int .i64 de, .int .i64 ga, .int .i64 b0, .int .i64 b1, .int .i64 b2, .int .i64 b3, .bool lg, .slice aa na ca, .slice ab nb cb] 25) = V at HB1 HK1 HZ1 ⊢
  obtain ⟨x, hx⟩ : ∃ x, w.heap.size = x := ⟨_, rfl⟩
  have HK2 : Hid (Blk V x (mcs ⟨up, sc, de, ga, b0, b1, b2, b3, lg, ad, be⟩ (.slice aa na ca) (.slice ab nb cb)) 25) := hx ▸ HK1
  rw [hx]
  clear HK1 hx HZ1
  have c0 := HK2.out.cell 0
  have c1 := HK2.out.cell 1
  have c2 := HK2.out.cell 2
  have c3 := HK2.out.cell 3
  have c4 := HK2.out.cell 4
  have c5 := HK2.out.cell 5
  have c6 := HK2.out.cell 6
  have c7 := HK2.out.cell 7
  have c8 := HK2.out.cell 8
  have c9 := HK2.out.cell 9
  have c10 := HK2.out.cell 10
  simp [mcs] at c0 c1 c2 c3 c4 c5 c6 c7 c8 c9 c10
  have xlt := HK2.out.lt
  have xn1 : x ≠ V.heap.size := by omega
  have xn2 : x ≠ V.heap.size + 1 := by omega
  have xn3 : x ≠ V.heap.size + 1 + 1 := by omega
  have FIN := hide (show ∀ W', Below V.heap.size V W' → Below w.heap.size w W' from fun W' h => below_t5 HB1.out h)
  refine (within_any 16 16384 _ [up] 1 1 _ rfl (by omega) (lst_one _ up _ (by simp))).mono ?_
  rintro e w1 ⟨rfl, rfl⟩
  cases q1 : wiB 16 16384 [up]
  · go_wp2_with fail
    go_ret
    exact ⟨by rw [E.out, q1]; rfl, FIN.out _ (((Below.refl _ _).alloc (by first | exact Nat.le_refl _ | (simp; omega) | simp) _))⟩
  go_wp2_with fail
  refine (within_any (-32768) 32767 _ [sc, de, ga] 3 3 _ rfl (by omega) (lst_new _ [sc, de, ga] _ (by simp))).mono ?_
  rintro e w1 ⟨rfl, rfl⟩
  cases q2 : wiB (-32768) 32767 [sc, de, ga]
  · go_wp2_with fail
    go_ret
    exact ⟨by rw [E.out, q1, q2]; rfl, FIN.out _ ((((Below.refl _ _).alloc (by first | exact Nat.le_refl _ | (simp; omega) | simp) _).alloc (by first | exact Nat.le_refl _ | (simp; omega) | simp) _))⟩
  go_wp2_with fail
  refine (within_any (-32768) 32767 _ [b0, b1, b2, b3] 4 _ _ rfl (by omega) (lst_box (HK2.out.below (((Below.refl _ _).alloc (by first | exact Nat.le_refl _ | (simp; omega) | simp) _).alloc (by first | exact Nat.le_refl _ | (simp; omega) | simp) _)))).mono ?_
  rintro e w1 ⟨rfl, rfl⟩
  cases q3 : wiB (-32768) 32767 [b0, b1, b2, b3]
  · go_wp2_with fail
    go_ret
    exact ⟨by rw [E.out, q1, q2, q3]; rfl, FIN.out _ ((((Below.refl _ _).alloc (by first | exact Nat.le_refl _ | (simp; omega) | simp) _).alloc (by first | exact Nat.le_refl _ | (simp; omega) | simp) _))⟩
  go_wp2_with fail
  refine (within_any 1 4096 _ [(na : Int)] 1 1 _ rfl (by omega) (lst_one _ (na : Int) _ (by simp))).mono ?_
  rintro e w1 ⟨rfl, rfl⟩
  have hb3 : Below V.heap.size V (((V.alloc (.cells #[.int .i64 up] 3)).alloc (.cells #[.int .i64 sc, .int .i64 de, .int .i64 ga] 3)).alloc (.cells #[.int .i64 (na : Int)] 3)) := ((((Below.refl _ _).alloc (by first | exact Nat.le_refl _ | (simp; omega) | simp) _).alloc (by first | exact Nat.le_refl _ | (simp; omega) | simp) _).alloc (by first | exact Nat.le_refl _ | (simp; omega) | simp) _)
  have k3 := HK2.out.below hb3
  have HB3 := hide hb3
  clear c0 c1 c2 c3 c4 c5 c6 c7 c8 c9 c10 xlt xn1 xn2 xn3
  generalize ((V.alloc (.cells #[.int .i64 up] 3)).alloc (.cells #[.int .i64 sc, .int .i64 de, .int .i64 ga] 3)).alloc (.cells #[.int .i64 (na : Int)] 3) = V3 at hb3 HB3 k3 ⊢
  have c9 := k3.cell 9
  have c10 := k3.cell 10
  simp [mcs] at c9 c10
  have xlt := k3.lt
  clear hb3 k3
  cases q4 : wiB 1 4096 [(na : Int)]
  · go_wp2_with fail
    go_ret
    exact ⟨by rw [E.out, q1, q2, q3, q4]; rfl, FIN.out _ HB3.out⟩
  cases q5 : (nb : Int) == (na : Int)
  · have q5n : ¬ nb = na := by intro h; simp [h] at q5
    have q5b : (nb == na) = false := by simp [q5n]
    go_wp2_with fail
    go_ret
    exact ⟨by rw [E.out, q1, q2, q3, q4, q5]; rfl, FIN.out _ HB3.out⟩
  have q5e : na = nb := by simp at q5; omega
  subst q5e
  go_wp2_with fail
  refine (within_any 0 65535 aa ad _ ca _ HN.out.1 (by have := HN.out; omega) (HA.out.below (FIN.out _ HB3.out))).mono ?_
  rintro e w1 ⟨rfl, rfl⟩
  cases q6 : wiB 0 65535 ad
  · go_wp2_with fail
    go_ret
    exact ⟨by rw [E.out, q1, q2, q3, q4, q5, q6]; rfl, FIN.out _ HB3.out⟩
  go_wp2_with fail
  refine (within_any (-32768) 32767 ab be _ cb _ HN.out.2.1 (by have := HN.out; omega) (HB.out.below (FIN.out _ HB3.out))).mono ?_
  rintro e w1 ⟨rfl, rfl⟩
  go_wp2_with fail
  go_ret
  exact ⟨by rw [E.out, q1, q2, q3, q4, q5, q6]; rfl, FIN.out _ HB3.out⟩
end Go.Proofs.Ytkdnoemakclmdaa
