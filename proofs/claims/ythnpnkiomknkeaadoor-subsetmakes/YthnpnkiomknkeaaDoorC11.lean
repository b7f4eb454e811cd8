/-
  Joined: M9Rdr, M9Gd, M9Drf, M9Hx.
-/
import Derived.Deep.RegionWith
import Derived.Lib.MinMax
import Derived.Test.YthnpnkiomknkeaaDoorC00
import Derived.Test.YthnpnkiomknkeaaDoorC05
import Derived.Test.YthnpnkiomknkeaaDoorC06
namespace Go.Proofs.YthnpnkiomknkeaaDoor
open Go.RowKit Go.Deep
set_option linter.unusedVariables false
structure But (b : Nat) (w w' : World) : Prop where
  os : w'.os = w.os
  tape : w'.tape = w.tape
  output : w'.output = w.output
  size : w.heap.size ≤ w'.heap.size
  block : ∀ k, k < w.heap.size → k ≠ b → w'.heap[k]? = w.heap[k]?
theorem But.refl (b : Nat) (w : World) : But b w w := ⟨rfl, rfl, rfl, Nat.le_refl _, fun _ _ _ => rfl⟩
theorem But.trans {b : Nat} {u v w : World} (h : But b u v) (k : But b v w) : But b u w :=
  ⟨k.os.trans h.os, k.tape.trans h.tape, k.output.trans h.output, Nat.le_trans h.size k.size, fun i hi hn => by rw [k.block i (Nat.lt_of_lt_of_le hi h.size) hn, h.block i hi hn]⟩
theorem But.setCell (b : Nat) (w : World) (o : Nat) (v : Value) : But b w (w.setCell ⟨b, o, none⟩ v) :=
  ⟨rfl, rfl, rfl, by simp [World.setCell], fun k _ hn => Below.heap_setCell _ _ _ _ hn⟩
theorem But.below {b : Nat} {w w' W : World} (h : But b w w') (h0 : Below W.heap.size W w) (hb : W.heap.size ≤ b) : Below W.heap.size W w' :=
  h0.trans ⟨h.os, h.tape, h.output, h.size, fun k hk => h.block k (Nat.lt_of_lt_of_le hk h0.size) (by omega)⟩
theorem But.blk {b k : Nat} {w w' : World} {cs : Array Value} {t : TypeId} (h : But b w w') (hk : Blk w k cs t) (hne : k ≠ b) : Blk w' k cs t := by
  have := hk.lt
  unfold Blk at *; rw [h.block k this hne]; exact hk
theorem lst_one (W : World) (x : Int) (H : Nat) (hH : W.heap.size = H) : Lst (W.alloc (.cells #[.int .i64 x] 3)) (some ⟨H, 0, none⟩) [x] := by
  subst hH
  refine Or.inr ⟨W.heap.size, 0, rfl, by simp, fun i hi => ?_⟩
  obtain rfl : i = 0 := by simpa using hi
  rw [World.cell?_alloc_at _ _ _ _ rfl]; rfl
structure Mt where
  up : Int
  sc : Int
  de : Int
  ga : Int
  b0 : Int
  b1 : Int
  b2 : Int
  b3 : Int
  lg : Bool
  ad : List Int
  be : List Int
def mcs (m : Mt) (va vb : Value) : Array Value :=
  #[.int .i64 m.up, .int .i64 m.sc, .int .i64 m.de, .int .i64 m.ga, .int .i64 m.b0, .int .i64 m.b1, .int .i64 m.b2, .int .i64 m.b3, .bool m.lg, va, vb]
def goodB (m : Mt) : Bool :=
  wiB 16 16384 [m.up] && (wiB (-32768) 32767 [m.sc, m.de, m.ga] && (wiB (-32768) 32767 [m.b0, m.b1, m.b2, m.b3] && (wiB 1 4096 [(m.ad.length : Int)] && (((m.be.length : Int) == (m.ad.length : Int)) && (wiB 0 65535 m.ad && wiB (-32768) 32767 m.be)))))
theorem lst_new (W : World) (zs : List Int) (H : Nat) (hH : W.heap.size = H) : Lst (W.alloc (.cells (zs.map (Value.int .i64)).toArray 3)) (some ⟨H, 0, none⟩) zs := by
  subst hH
  refine Or.inr ⟨W.heap.size, 0, rfl, by simp, fun i hi => ?_⟩
  rw [World.cell?_alloc_at _ _ _ _ rfl, Nat.zero_add]
  simp [hi, List.getD_eq_getElem?_getD]
theorem lst_box {w : World} {b : Nat} {m : Mt} {va vb : Value} (h : Blk w b (mcs m va vb) 25) : Lst w (some ⟨b, 4, none⟩) [m.b0, m.b1, m.b2, m.b3] := by
  refine Or.inr ⟨b, 4, rfl, h.lt, fun i hi => ?_⟩
  rw [h.cell (4 + i)]
  match i, hi with
  | 0, _ => rfl
  | 1, _ => rfl
  | 2, _ => rfl
  | 3, _ => rfl
set_option maxHeartbeats 4000000 in
theorem good_any (m : Mt) (aa ab : Option Addr) (na nb ca cb : Nat) (w : World) (hna : m.ad.length = na) (hnb : m.be.length = nb) (hma : na ≤ 1000000) (hmb : nb ≤ 1000000) (hA : Lst w aa m.ad) (hB : Lst w ab m.be) :
    Calls Tryd.prog 33 #[.agg (mcs m (.slice aa na ca) (.slice ab nb cb))] w fun e w' => e = .returned (.bool (goodB m)) ∧ Below w.heap.size w w' := by
  obtain ⟨up, sc, de, ga, b0, b1, b2, b3, lg, ad, be⟩ := m
  have hma' : (na : Int) ≤ 1000000 := by omega
  have hmb' : (nb : Int) ≤ 1000000 := by omega
  have E := hide (show goodB ⟨up, sc, de, ga, b0, b1, b2, b3, lg, ad, be⟩ = (wiB 16 16384 [up] && (wiB (-32768) 32767 [sc, de, ga] && (wiB (-32768) 32767 [b0, b1, b2, b3] && (wiB 1 4096 [(na : Int)] && (((nb : Int) == (na : Int)) && (wiB 0 65535 ad && wiB (-32768) 32767 be)))))) by unfold goodB; simp only at hna hnb; simp only [hna, hnb])
  have HA := hide hA
  have HB := hide hB
  have HN := hide (And.intro hna (And.intro hnb (And.intro hma hmb)))
  have b1' := (Below.refl w.heap.size w).alloc (Nat.le_refl _) (.cells (mcs ⟨up, sc, de, ga, b0, b1, b2, b3, lg, ad, be⟩ (.slice aa na ca) (.slice ab nb cb)) 25)
  have k1 := Blk.new w (mcs ⟨up, sc, de, ga, b0, b1, b2, b3, lg, ad, be⟩ (.slice aa na ca) (.slice ab nb cb)) 25
  have z1 : (w.alloc (.cells (mcs ⟨up, sc, de, ga, b0, b1, b2, b3, lg, ad, be⟩ (.slice aa na ca) (.slice ab nb cb)) 25)).heap.size = w.heap.size + 1 := by simp
  have HB1 := hide b1'
  have HK1 := hide k1
  have HZ1 := hide z1
  clear hA hB hna hnb hma hmb b1' k1 z1
  simp only [mcs] at HB1 HK1 HZ1 ⊢
  go_enter Tryd.func33, Tryd.ntmps33
  go_wp2_with fail
  rw [← HZ1.out]
  generalize w.alloc (.cells #[.int .i64 up, .int .i64 sc, .int .i64 de, .int .i64 ga, .int .i64 b0, .int .i64 b1, .int .i64 b2, .int .i64 b3, .bool lg, .slice aa na ca, .slice ab nb cb] 25) = V at HB1 HK1 HZ1 ⊢
  obtain ⟨x, hx⟩ : ∃ x, w.heap.size = x := ⟨_, rfl⟩
  have HK2 : Hid (Blk V x (mcs ⟨up, sc, de, ga, b0, b1, b2, b3, lg, ad, be⟩ (.slice aa na ca) (.slice ab nb cb)) 25) := hx ▸ HK1
  rw [hx]
  clear HK1 hx HZ1
  have c0 := HK2.out.cell 0
  have c1 := HK2.out.cell 1
  have c2 := HK2.out.cell 2
  have c3 := HK2.out.cell 3
  have c4 := HK2.out.cell 4
  have c5 := HK2.out.cell 5
  have c6 := HK2.out.cell 6
  have c7 := HK2.out.cell 7
  have c8 := HK2.out.cell 8
  have c9 := HK2.out.cell 9
  have c10 := HK2.out.cell 10
  simp [mcs] at c0 c1 c2 c3 c4 c5 c6 c7 c8 c9 c10
  have xlt := HK2.out.lt
  have xn1 : x ≠ V.heap.size := by omega
  have xn2 : x ≠ V.heap.size + 1 := by omega
  have xn3 : x ≠ V.heap.size + 1 + 1 := by omega
  have FIN := hide (show ∀ W', Below V.heap.size V W' → Below w.heap.size w W' from fun W' h => below_t5 HB1.out h)
  refine (within_any 16 16384 _ [up] 1 1 _ rfl (by omega) (lst_one _ up _ (by simp))).mono ?_
  rintro e w1 ⟨rfl, rfl⟩
  cases q1 : wiB 16 16384 [up]
  · go_wp2_with fail
    go_ret
    exact ⟨by rw [E.out, q1]; rfl, FIN.out _ (((Below.refl _ _).alloc (by first | exact Nat.le_refl _ | (simp; omega) | simp) _))⟩
  go_wp2_with fail
  refine (within_any (-32768) 32767 _ [sc, de, ga] 3 3 _ rfl (by omega) (lst_new _ [sc, de, ga] _ (by simp))).mono ?_
  rintro e w1 ⟨rfl, rfl⟩
  cases q2 : wiB (-32768) 32767 [sc, de, ga]
  · go_wp2_with fail
    go_ret
    exact ⟨by rw [E.out, q1, q2]; rfl, FIN.out _ ((((Below.refl _ _).alloc (by first | exact Nat.le_refl _ | (simp; omega) | simp) _).alloc (by first | exact Nat.le_refl _ | (simp; omega) | simp) _))⟩
  go_wp2_with fail
  refine (within_any (-32768) 32767 _ [b0, b1, b2, b3] 4 _ _ rfl (by omega) (lst_box (HK2.out.below (((Below.refl _ _).alloc (by first | exact Nat.le_refl _ | (simp; omega) | simp) _).alloc (by first | exact Nat.le_refl _ | (simp; omega) | simp) _)))).mono ?_
  rintro e w1 ⟨rfl, rfl⟩
  cases q3 : wiB (-32768) 32767 [b0, b1, b2, b3]
  · go_wp2_with fail
    go_ret
    exact ⟨by rw [E.out, q1, q2, q3]; rfl, FIN.out _ ((((Below.refl _ _).alloc (by first | exact Nat.le_refl _ | (simp; omega) | simp) _).alloc (by first | exact Nat.le_refl _ | (simp; omega) | simp) _))⟩
  go_wp2_with fail
  refine (within_any 1 4096 _ [(na : Int)] 1 1 _ rfl (by omega) (lst_one _ (na : Int) _ (by simp))).mono ?_
  rintro e w1 ⟨rfl, rfl⟩
  have hb3 : Below V.heap.size V (((V.alloc (.cells #[.int .i64 up] 3)).alloc (.cells #[.int .i64 sc, .int .i64 de, .int .i64 ga] 3)).alloc (.cells #[.int .i64 (na : Int)] 3)) := ((((Below.refl _ _).alloc (by first | exact Nat.le_refl _ | (simp; omega) | simp) _).alloc (by first | exact Nat.le_refl _ | (simp; omega) | simp) _).alloc (by first | exact Nat.le_refl _ | (simp; omega) | simp) _)
  have k3 := HK2.out.below hb3
  have HB3 := hide hb3
  clear c0 c1 c2 c3 c4 c5 c6 c7 c8 c9 c10 xlt xn1 xn2 xn3
  generalize ((V.alloc (.cells #[.int .i64 up] 3)).alloc (.cells #[.int .i64 sc, .int .i64 de, .int .i64 ga] 3)).alloc (.cells #[.int .i64 (na : Int)] 3) = V3 at hb3 HB3 k3 ⊢
  have c9 := k3.cell 9
  have c10 := k3.cell 10
  simp [mcs] at c9 c10
  have xlt := k3.lt
  clear hb3 k3
  cases q4 : wiB 1 4096 [(na : Int)]
  · go_wp2_with fail
    go_ret
    exact ⟨by rw [E.out, q1, q2, q3, q4]; rfl, FIN.out _ HB3.out⟩
  cases q5 : (nb : Int) == (na : Int)
  · have q5n : ¬ nb = na := by intro h; simp [h] at q5
    have q5b : (nb == na) = false := by simp [q5n]
    go_wp2_with fail
    go_ret
    exact ⟨by rw [E.out, q1, q2, q3, q4, q5]; rfl, FIN.out _ HB3.out⟩
  have q5e : na = nb := by simp at q5; omega
  subst q5e
  go_wp2_with fail
  refine (within_any 0 65535 aa ad _ ca _ HN.out.1 (by have := HN.out; omega) (HA.out.below (FIN.out _ HB3.out))).mono ?_
  rintro e w1 ⟨rfl, rfl⟩
  cases q6 : wiB 0 65535 ad
  · go_wp2_with fail
    go_ret
    exact ⟨by rw [E.out, q1, q2, q3, q4, q5, q6]; rfl, FIN.out _ HB3.out⟩
  go_wp2_with fail
  refine (within_any (-32768) 32767 ab be _ cb _ HN.out.2.1 (by have := HN.out; omega) (HB.out.below (FIN.out _ HB3.out))).mono ?_
  rintro e w1 ⟨rfl, rfl⟩
  go_wp2_with fail
  go_ret
  exact ⟨by rw [E.out, q1, q2, q3, q4, q5, q6]; rfl, FIN.out _ HB3.out⟩
def maxV : List Int → Int
  | [] => 0
  | x :: r => r.foldl max x
theorem maxV_snoc (x : Int) (r : List Int) (z : Int) : maxV ((x :: r) ++ [z]) = max (maxV (x :: r)) z := by
  show List.foldl max x (r ++ [z]) = max (List.foldl max x r) z
  rw [List.foldl_append]
  rfl
set_option maxHeartbeats 1000000 in
theorem max_any (a : Option Addr) (zs : List Int) (n c : Nat) (w : World) (hn : zs.length = n) (h0 : 1 ≤ n) (hm : n ≤ 1073741824) (hL : Lst w a zs) :
    Calls Tryd.prog 46 #[.slice a n c] w fun e w' => e = .returned (.int .i64 (maxV zs)) ∧ w' = w := by
  have hm' : (n : Int) ≤ 1073741824 := by omega
  have h0' : ¬ (n : Int) < 1 := by omega
  have h1' : (0 : Int) < (n : Int) := by omega
  rcases hL with hz | ⟨b, o, rfl, hb, hcell⟩
  · rw [hz] at hn; simp at hn; omega
  have HC := hide hcell
  have HN := hide hn
  obtain ⟨x, r, rfl⟩ : ∃ x r, zs = x :: r := by
    cases zs with
    | nil => simp at hn; omega
    | cons x r => exact ⟨x, r, rfl⟩
  have hc0 := hcell 0 (by simp)
  simp at hc0
  clear hcell hn h0 hm
  go_enter Tryd.func46, Tryd.ntmps46
  go_wp2_with fail
  go_loop [3, 4] (fun vm vi => ∃ (k : Nat) (M : Int), vi = .int .i64 k ∧ vm = .int .i64 M ∧ Hid (1 ≤ k ∧ k ≤ n ∧ M = maxV ((x :: r).take k))) (fun _ vi => n - (intOf vi).toNat)
  case atStart => exact ⟨1, x, rfl, rfl, hide ⟨by omega, by omega, by simp [maxV]⟩⟩
  case round =>
    obtain ⟨k, M, rfl, rfl, HV⟩ := hrel
    obtain ⟨hk1, hk, hM⟩ := HV.out
    have hk0 : (0 : Int) ≤ (k : Int) := by omega
    have HM := hide hM
    clear HV hM hc0
    by_cases hlt : k < n
    case neg =>
      have hlt' : ¬ (k : Int) < (n : Int) := by omega
      have E : Hid (M = maxV (x :: r)) := hide (by rw [HM.out, List.take_of_length_le (by have := HN.out; omega)])
      clear HM
      go_wp2_with fail
      go_ret
      exact ⟨by rw [← E.out]; rfl, rfl⟩
    have hlt' : (k : Int) < (n : Int) := by omega
    have hc := HC.out k (by have := HN.out; omega)
    have E : Hid (∀ z, z = (x :: r).getD k 0 → max M z = maxV ((x :: r).take (k + 1))) := hide fun z hz => by
      have hl := HN.out
      rw [HM.out, hz, List.take_succ_eq_append_getElem (by omega)]
      obtain ⟨j, rfl⟩ : ∃ j, k = j + 1 := ⟨k - 1, by omega⟩
      rw [List.take_succ_cons, maxV_snoc]
      rw [List.getD_eq_getElem?_getD, List.getElem?_eq_getElem (by omega)]
      rfl
    have HX : Hid ((x :: r).getD k 0 = (x :: r).getD k 0) := hide rfl
    generalize (x :: r).getD k 0 = z at hc E
    clear HM HX
    go_wp2_with fail
    go_round
    case rel => exact ⟨k + 1, _, by go_num, rfl, hide ⟨by omega, by omega, E.out z rfl⟩⟩
    case measure => simp [intOf]; omega
theorem make_ints (n : Nat) (hn : n ≤ 100000) (x : World) : (Instr.makeSlice 23 (.int .i64 (n : Int)) (.int .i64 (n : Int))).run Tryd.prog x = .ok (.slice (some ⟨x.heap.size, 0, none⟩) n n) (x.alloc (.cells (Array.replicate n (.int .i64 0)) 3)) := by
  obtain ⟨i0, hi, hz0, hz1, hz2⟩ := info_parts5 info_int
  have h := run_make (P := Tryd.prog) x 23 3 i0 (.int .i64 0) Tryd.underlying23 hi hz0 .i64 .i64 n n (by omega) (Int.le_refl _) (by rw [hz2]; omega) (by omega)
  rw [hz1] at h
  simp only [Int.toNat_natCast, Nat.mul_one] at h
  have e : madeCells (Value.int .i64 0).cells n = Array.replicate n (.int .i64 0) := by
    apply Array.ext (by simp [madeCells])
    intro j h1 h2
    simp [madeCells, Value.cells, Nat.mod_one]
  rw [e] at h
  exact h
end Go.Proofs.YthnpnkiomknkeaaDoor
