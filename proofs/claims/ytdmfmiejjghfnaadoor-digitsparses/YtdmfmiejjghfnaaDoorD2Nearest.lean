/-
  What digits.nearest answers.
-/
import Derived.Test.YtdmfmiejjghfnaaDoorD2Nrow
namespace Go.Proofs.YtdmfmiejjghfnaaDoor
open Go.RowKit

theorem info_u8 : (Tryd.prog.info? 5).map (fun i => (i.zero, i.size, i.bytes)) = some (some (.int .u8 0), 1, 1) := by kernel_rfl
def bcell (b : UInt8) : Value := Value.int .u8 (b.toNat : Int)
/- a row of the call's own that holds bytes -/
def OwnB (w : World) (base g n cap : Nat) (ys : List UInt8) : Prop := w.ownsRow base 5 1 (.slice (some ⟨g, 0, none⟩) n cap) n (ys.map bcell)
theorem OwnB.at {w : World} {base g n cap : Nat} {ys : List UInt8} (h : OwnB w base g n cap ys) (i : Nat) (hi : i < ys.length) : w.cell? ⟨g, i, none⟩ = some (bcell ys[i]) := by
  have := World.ownsRow.cellAt h i (by have := h.1; simp at this; omega)
  rw [this, List.getElem?_map, List.getElem?_eq_getElem hi]
  rfl
theorem OwnB.stored {w : World} {base g n cap : Nat} {ys : List UInt8} (h : OwnB w base g n cap ys) (j : Nat) (x : UInt8) : OwnB (w.setCell ⟨g, j, none⟩ (bcell x)) base g n cap (ys.set j x) := by
  have := (World.ownsRow.stored h j (bcell x)).1
  unfold OwnB
  rw [List.map_set]
  exact this
theorem own_made8 (w1 : World) (base g n : Nat) (h : w1.ownsRow base 5 1 (.slice (some ⟨g, 0, none⟩) n n) n (madeCells (Value.int .u8 0).cells (n * 1)).toList) :
    OwnB w1 base g n n (List.replicate n 0) := by
  unfold OwnB
  have e : (madeCells (Value.int .u8 0).cells (n * 1)).toList = (List.replicate n (0 : UInt8)).map bcell := by
    rw [Nat.mul_one, show (Value.int .u8 0).cells = #[Value.int .u8 0] from rfl, toList_madeCells_one, List.map_replicate]
    rfl
  rw [← e]
  exact h
/- string(row) -/
theorem OwnB.text {w : World} {base g n cap : Nat} {ys : List UInt8} (h : OwnB w base g n cap ys) (hn : ys.length = n) :
    (convert 36 9 (.slice (some ⟨g, 0, none⟩) n cap)).run Tryd.prog w = .ok (.string ⟨ys.toArray⟩) w := by
  subst hn
  refine run_convert_bytes_back (P := Tryd.prog) w 36 9 5 ⟨g, 0, none⟩ cap ys Tryd.underlying36 Tryd.underlying5 Tryd.underlying9 ?_
  intro k hk
  have := h.at k hk
  rw [Go.WideShapes.add_plain, Nat.zero_add, this]
  rfl

/- the row while the loop goes: j places to go -/
def nst (l : List UInt8) (j : Nat) : List UInt8 := List.replicate j 0 ++ (nrow (l.drop j)).2
theorem nst_len (l : List UInt8) (j : Nat) (h : j ≤ l.length) : (nst l j).length = l.length := by
  unfold nst
  rw [List.length_append, nrow_len, List.length_replicate, List.length_drop]
  omega
theorem nst_set (l : List UInt8) (j : Nat) (x : UInt8) (d : Nat) (hx : x = dgB d) (h : nrow (l.drop j) = (((nrow (l.drop j)).1), dgB d :: (nrow (l.drop (j + 1))).2)) :
    (nst l (j + 1)).set j x = nst l j := by
  unfold nst
  rw [h, hx]
  simp only []
  rw [List.set_append, if_pos (by simp), List.replicate_succ', List.set_append, if_neg (by simp)]
  simp

set_option maxHeartbeats 1000000 in
theorem near_core (s : ByteArray) (below ov : Bool) (w : World) (hs : s.size ≤ 40) (hd : s.data.toList.all isDig = true)
    (cO : ∀ w, Calls Tryd.prog 38 #[.string ⟨(nrow s.data.toList).2.toArray⟩, .bool (!below)] w fun e w' => e = .returned (.bool ov) ∧ w' = w)
    (R : Nat) (hR : (nrow s.data.toList).1 + (if ov then 1 else 0) = R) :
    Calls Tryd.prog 27 #[.string s, .bool below] w fun e w' => e = .returned (.int .i64 R) ∧ Below w.heap.size w w' := by
  obtain ⟨l, hl⟩ : ∃ l, s.data.toList = l := ⟨_, rfl⟩
  have hlen : l.length = s.size := by rw [← hl]; exact size_list s
  have hat : ∀ k (h : k < s.size), l.drop k = s[k] :: l.drop (k + 1) := by intro k h; rw [← hl]; exact drop_at s k h
  rw [hl] at hd cO hR
  have HQ := hide (nrow_le l hd)
  have HR := hide hR
  have hdig : ∀ k (h : k < s.size), isDig s[k] = true ∧ (l.drop (k + 1)).all isDig = true := by
    intro k h
    have : (l.drop k).all isDig = true := by
      rw [List.all_eq_true] at hd ⊢
      intro x hx
      exact hd x (List.mem_of_mem_drop hx)
    rw [hat k h] at this
    simpa using this
  have HL := hide hlen
  have HAT := hide hat
  have HDIG := hide hdig
  have CO := hide cO
  clear cO hd hat hdig hl hlen hR
  have hs' : (s.size : Int) ≤ 40 := by omega
  obtain ⟨i0, hi, hz0, hz1, hz2⟩ := info_parts info_u8
  have hb8 : i0.bytes * s.size ≤ 281474976710656 := by rw [hz2]; omega
  have hm8 : s.size ≤ maxLen := by unfold maxLen; omega
  have HI := hide hi
  have HI0 := hide hz0
  have HI1 := hide hz1
  clear hi hz0 hz1 hz2
  go_enter Tryd.func27, Tryd.ntmps27
  go_wp2_with (at_make; refine wpList_make_full _ rfl _ _ 36 rfl w.heap.size 5 i0 (.int .u8 0) 1 Tryd.underlying36 HI.out HI0.out HI1.out _ _ _ _ s.size rfl rfl rfl rfl hb8 hm8 (by simp) ?_; intro w1 hown hgrow)
  have O0 := own_made8 w1 w.heap.size w.heap.size s.size hown
  have B0 : Below w.heap.size w w1 := (Below.refl _ _).grown hgrow (by simp) (by simp)
  have HO := hide (show OwnB w1 w.heap.size w.heap.size s.size s.size (nst l s.size) by
    have : nst l s.size = List.replicate s.size 0 := by
      unfold nst
      rw [List.drop_eq_nil_of_le (by have := HL.out; omega)]
      simp [nrow]
    rw [this]; exact O0)
  have HB := hide B0
  have H0 := hide (show (nrow (l.drop s.size)).1 = 0 by rw [List.drop_eq_nil_of_le (by have := HL.out; omega)]; rfl)
  clear O0 B0 hown hgrow
  go_loopw [6, 7, 8] (fun vq vi _ wr => ∃ (j q : Nat) (x : Int), vi = .int .i64 x ∧ vq = .int .i64 q ∧ Hid (x = (j : Int) - 1 ∧ j ≤ s.size ∧ (nrow (l.drop j)).1 = q ∧ Below w.heap.size w wr ∧ OwnB wr w.heap.size w.heap.size s.size s.size (nst l j))) (fun _ vi _ _ => (intOf vi + 1).toNat)
  case atStart => exact ⟨s.size, 0, _, rfl, rfl, hide ⟨rfl, Nat.le_refl _, H0.out, HB.out, HO.out⟩⟩
  case round =>
    obtain ⟨j, q, x, rfl, rfl, HK⟩ := hrel
    obtain ⟨k1, k2, k3, k4, k5⟩ := HK.out
    clear HK
    cases j with
    | zero =>
      obtain rfl : x = -1 := by omega
      rw [show nst l 0 = (nrow l).2 by simp [nst]] at k5
      rw [List.drop_zero] at k3
      have hcv := k5.text (by rw [nrow_len, HL.out])
      have hq : (q : Int) ≤ 65535 := by have := HQ.out; omega
      have K4 := hide k4
      have hr := HR.out
      rw [k3] at hr
      clear k1 k2 k3 k4 k5 HR
      cases ov
      · obtain rfl : q = R := by simpa using hr
        clear hr
        go_wp2_with (go_at_call 38; refine (CO.out _).mono ?_; rintro e w' ⟨rfl, rfl⟩)
        go_ret
        exact ⟨rfl, K4.out⟩
      · obtain rfl : q + 1 = R := by simpa using hr
        clear hr
        go_wp2_with (go_at_call 38; refine (CO.out _).mono ?_; rintro e w' ⟨rfl, rfl⟩)
        go_ret
        exact ⟨by go_num, K4.out⟩
    | succ k =>
      obtain rfl : x = (k : Int) := by omega
      have hk : k < s.size := by omega
      have hk' : (k : Int) < (s.size : Int) := by omega
      obtain ⟨g1, g2⟩ := HDIG.out k hk
      have hq : (q : Int) ≤ 65535 := by have := nrow_le _ g2; omega
      obtain ⟨d1, d2⟩ := dv_le _ g1
      have hn : nrow (l.drop k) = ((dv s[k] * 65536 + q) / 10, dgB ((dv s[k] * 65536 + q) % 10) :: (nrow (l.drop (k + 1))).2) := by
        rw [HAT.out k hk, nrow_cons, k3]
      obtain ⟨d, hd⟩ : ∃ d, dv s[k] = d := ⟨_, rfl⟩
      rw [hd] at d1 d2 hn
      have d3 : (d : Int) ≤ 9 := by omega
      have hst := fun (x : UInt8) (hx : x = dgB ((d * 65536 + q) % 10)) => nst_set l k x _ hx (by rw [hn])
      have hm : (d * 65536 + q) % 10 < 10 := by omega
      have hQ : (d * 65536 + q) / 10 ≤ 65535 := by omega
      have HQM := hide (show d * 65536 + q = 10 * ((d * 65536 + q) / 10) + (d * 65536 + q) % 10 by omega)
      have HM := hide hm
      generalize (d * 65536 + q) / 10 = Q at *
      generalize (d * 65536 + q) % 10 = M at *
      have hm' : (M : Int) ≤ 9 := by omega
      have hQ' : (Q : Int) ≤ 65535 := by omega
      have hcg : ∃ x, wr.cell? ⟨w.heap.size, k, none⟩ = some (.int .u8 x) := ⟨_, k5.at k (by rw [nst_len _ _ (by rw [HL.out]; omega), HL.out]; omega)⟩
      obtain ⟨y, hcg⟩ := hcg
      have hfg : wr.frozen? ⟨w.heap.size, k, none⟩ = false := World.ownsRow.frozenAt k5 k
      have K4 := hide k4
      have K5 := hide (show ∀ y : Int, y = 48 + (M : Int) → OwnB (wr.setCell ⟨w.heap.size, k, none⟩ (.int .u8 y)) w.heap.size w.heap.size s.size s.size (nst l k) by
        intro y hy
        subst hy
        have h := k5.stored k (dgB M)
        rw [hst _ rfl] at h
        rwa [show bcell (dgB M) = .int .u8 (48 + (M : Int)) by unfold bcell; rw [dgB_nat M hm]; congr 1] at h)
      have K6 := hide (show (nrow (l.drop k)).1 = Q by rw [hn])
      clear k1 k2 k3 k4 k5 hn g1 g2 hd hst hm hQ HR
      go_wp2
      go_roundw
      case rel => exact ⟨k, Q, _, rfl, by have := HQM.out; have := HM.out; congr 1; omega, hide ⟨by omega, by omega, K6.out, K4.out.setCell (Nat.le_refl _) _, K5.out _ (by have := HQM.out; have := HM.out; omega)⟩⟩
      case measure => simp [intOf]; try omega
end Go.Proofs.YtdmfmiejjghfnaaDoor
