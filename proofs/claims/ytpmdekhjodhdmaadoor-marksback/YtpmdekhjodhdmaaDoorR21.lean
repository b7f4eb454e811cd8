/-
  Joined: K17Mp, K17Mc, K17Md, K17Me.
-/
import Derived.BigQuiet
import Derived.Deep.Draws
import Derived.Deep.QuietTactic
import Derived.Deep.RegionHeld3
import Derived.Laws.Concat
import Derived.Lib.AppendStr
import Derived.Lib.Strings
import Derived.Test.YtpmdekhjodhdmaaDoorR02
import Derived.Test.YtpmdekhjodhdmaaDoorR04
import Derived.Test.YtpmdekhjodhdmaaDoorR09
import Derived.Test.YtpmdekhjodhdmaaDoorR16
import Derived.Test.YtpmdekhjodhdmaaDoorR17
import Derived.Test.YtpmdekhjodhdmaaDoorR18
import Derived.Test.YtpmdekhjodhdmaaDoorR20
namespace Go.Proofs.YtpmdekhjodhdmaaDoor.K17
open Go.RowKit Go.Proofs.YtpmdekhjodhdmaaDoor
open Go.Lib
set_option linter.unusedVariables false
set_option linter.unusedSimpArgs false
set_option maxRecDepth 8000
def allN (n : Nat) (f : Nat → Bool) : Bool := (List.range n).all f
theorem allN_succ (n : Nat) (f : Nat → Bool) : allN (n + 1) f = (allN n f && f n) := by
  unfold allN; rw [List.range_succ, List.all_append]; simp
theorem allN_iff {n : Nat} {f : Nat → Bool} : allN n f = true ↔ ∀ i, i < n → f i = true := by
  unfold allN; rw [List.all_eq_true]; simp
theorem allN_no {n k : Nat} {f : Nat → Bool} (hk : k < n) (h : f k = false) : allN n f = false := by
  cases hn : allN n f with
  | false => rfl
  | true => rw [allN_iff.1 hn k hk] at h; simp at h
theorem allN_step {k : Nat} {f : Nat → Bool} (h : allN k f = true) (h1 : f k = true) : allN (k + 1) f = true := by rw [allN_succ, h, h1]; rfl
def isNm (x : List UInt8) : Bool := decide (1 ≤ x.length) && decide (x.length ≤ 16) && smN (x.getD 0 0).toNat && x.all nmB
def pln (l : List UInt8) : Bool := Lib.validD l && !hc l
theorem gesc_ne {l : List UInt8} (h : l ≠ []) : esc l ≠ [] := by
  rw [esc_step l h]
  intro h2
  have h3 := (List.append_eq_nil_iff.1 h2).1
  unfold es at h3
  split at h3
  · simp at h3
  · split at h3
    · simp at h3
    · split at h3
      · simp at h3
      · split at h3
        · simp at h3
        · unfold e8 at h3
          split at h3
          · simp at h3
          · split at h3
            · simp at h3
            · split at h3 <;> simp at h3
def okA1 (ps : List At) (i : Nat) : Bool := isNm (ps.getD i ([], [])).1 && !nmd (ps.take i) (ps.getD i ([], [])).1 && pln (ps.getD i ([], [])).2
def okA (ps : List At) : Bool := decide (ps.length ≤ 16) && allN ps.length (okA1 ps)
def okT (t : Tg) : Bool := if t.k = 4 then decide (t.x = []) && decide (t.ps.length = 0) && !decide (t.t = []) && pln t.t
  else if t.k = 2 then isNm t.x && decide (t.ps.length = 0) && decide (t.t = [])
  else if t.k = 1 ∨ t.k = 3 then isNm t.x && okA t.ps && decide (t.t = []) else false
def two (ts : List Tg) (i : Nat) : Bool := decide (0 < i) && ((ts.getD i tg0).k == 4) && ((ts.getD (i - 1) tg0).k == 4)
def okL1 (ts : List Tg) (i : Nat) : Bool := okT (ts.getD i tg0) && !two ts i
def okL (ts : List Tg) : Bool := allN ts.length (okL1 ts)
def aT (p : At) : List UInt8 := [32] ++ p.1 ++ [61, 34] ++ esc p.2 ++ [34]
def txT (t : Tg) : List UInt8 := if t.k = 4 then esc t.t else if t.k = 2 then [60, 47] ++ t.x ++ [62] else [60] ++ t.x ++ t.ps.flatMap aT ++ (if t.k = 3 then [47] else []) ++ [62]
def prV (ts : List Tg) : List UInt8 × Int := if okL ts then (ts.flatMap txT, 0) else ([], 170)
def szA (ps : List At) : Nat := (ps.map fun p => p.1.length + p.2.length).sum
def szT (t : Tg) : Nat := 1 + t.x.length + t.t.length + t.ps.length + szA (t.ps.take 40)
def szL (ts : List Tg) : Nat := (ts.map szT).sum
theorem sum_take {α : Type} (f : α → Nat) (d : α) (l : List α) (k : Nat) (h : k < l.length) : ((l.take (k + 1)).map f).sum = ((l.take k).map f).sum + f (l.getD k d) := by
  rw [List.take_succ_eq_append_getElem h, List.map_append, List.sum_append, List.getD_eq_getElem?_getD, List.getElem?_eq_getElem h]; simp
theorem sum_le {α : Type} (f : α → Nat) : ∀ (l : List α) (a : α), a ∈ l → f a ≤ (l.map f).sum
  | [], a, h => by simp at h
  | b :: l, a, h => by
    rw [List.map_cons, List.sum_cons]
    rcases List.mem_cons.1 h with rfl | h
    · omega
    · have := sum_le f l a h; omega
theorem flat_take {α : Type} (f : α → List UInt8) (d : α) (l : List α) (k : Nat) (h : k < l.length) : (l.take (k + 1)).flatMap f = (l.take k).flatMap f ++ f (l.getD k d) := by
  rw [List.take_succ_eq_append_getElem h, List.flatMap_append, List.getD_eq_getElem?_getD, List.getElem?_eq_getElem h]; simp
theorem gflat_len {α : Type} (f : α → List UInt8) (g : α → Nat) : ∀ (l : List α), (∀ a ∈ l, (f a).length ≤ g a) → (l.flatMap f).length ≤ (l.map g).sum
  | [], _ => by simp
  | a :: l, h => by
    rw [List.flatMap_cons, List.length_append, List.map_cons, List.sum_cons]
    have := h a (by simp); have := gflat_len f g l (fun x hx => h x (by simp [hx])); omega
theorem sum_mul {α : Type} (f : α → Nat) (c : Nat) : ∀ (l : List α), (l.map fun a => c * f a).sum = c * (l.map f).sum
  | [] => by simp
  | a :: l => by rw [List.map_cons, List.sum_cons, List.map_cons, List.sum_cons, sum_mul f c l, Nat.mul_add]
theorem sum_add {α : Type} (f : α → Nat) (c : Nat) : ∀ (l : List α), (l.map fun a => c + f a).sum = c * l.length + (l.map f).sum
  | [] => by simp
  | a :: l => by rw [List.map_cons, List.sum_cons, List.map_cons, List.sum_cons, sum_add f c l, List.length_cons, Nat.mul_add]; omega
theorem atT_len (p : At) : (aT p).length ≤ 4 + 6 * (p.1.length + p.2.length) := by
  unfold aT
  have := esc_len p.2
  simp only [List.length_append, List.length_cons, List.length_nil]
  omega
theorem ats_len (ps : List At) : (ps.flatMap aT).length ≤ 4 * ps.length + 6 * szA ps := by
  have h := gflat_len aT (fun p => 4 + 6 * (p.1.length + p.2.length)) ps (fun p _ => atT_len p)
  rw [sum_add (fun p : At => 6 * (p.1.length + p.2.length)) 4, sum_mul (fun p : At => p.1.length + p.2.length) 6] at h
  exact h
theorem txT_len {t : Tg} (h : okT t = true) : (txT t).length ≤ 10 * szT t := by
  unfold okT at h
  unfold txT szT
  split at h
  · rename_i h4
    rw [if_pos h4]
    have := esc_len t.t
    omega
  · rename_i h4
    rw [if_neg h4]
    split at h
    · rename_i h2
      rw [if_pos h2]
      simp only [List.length_append, List.length_cons, List.length_nil]
      omega
    · rename_i h2
      rw [if_neg h2]
      split at h
      · simp only [Bool.and_eq_true, okA, decide_eq_true_eq] at h
        have h16 := h.1.2.1
        have ha := ats_len t.ps
        rw [List.take_of_length_le (by omega)]
        have hb : (if t.k = 3 then ([47] : List UInt8) else []).length ≤ 1 := by split <;> simp
        simp only [List.length_append, List.length_cons, List.length_nil]
        omega
      · simp at h
theorem okL_mem {ts : List Tg} (h : okL ts = true) : ∀ t ∈ ts, okT t = true := by
  intro t ht
  obtain ⟨i, hi, rfl⟩ := List.mem_iff_getElem.1 ht
  have := allN_iff.1 h i hi
  unfold okL1 at this
  rw [List.getD_eq_getElem?_getD, List.getElem?_eq_getElem hi] at this
  simp only [Option.getD_some, Bool.and_eq_true] at this
  exact this.1
theorem prL_len {ts : List Tg} (h : okL ts = true) : (ts.flatMap txT).length ≤ 10 * szL ts := by
  have h1 := gflat_len txT (fun t => 10 * szT t) ts (fun t ht => txT_len (okL_mem h t ht))
  rw [sum_mul szT 10] at h1
  exact h1
theorem sz_take (ts : List Tg) (k : Nat) : szL (ts.take k) ≤ szL ts := by
  have : szL ts = szL (ts.take k) + szL (ts.drop k) := by
    unfold szL
    rw [← List.sum_append, ← List.map_append, List.take_append_drop]
  omega
end Go.Proofs.YtpmdekhjodhdmaaDoor.K17
namespace Go.Proofs.YtpmdekhjodhdmaaDoor.K17
open Go.RowKit Go.Proofs.YtpmdekhjodhdmaaDoor
open Go.Lib
set_option linter.unusedVariables false
set_option linter.unusedSimpArgs false
set_option maxRecDepth 100000
section
variable {P : Program} {md : Region.Mode} {ops : Array Oper} {Q : Exit → Act → World → Prop} {S : World → Prop}
theorem gakeW {i d : Nat} {oi : Oper} {v : Value} {fuel : Nat} {listed : Array Bool} {a : Act} {w : World} (hi : ops[i]? = some oi) (hd : oi.dst = some d)
    (hs : Region.noSelect ops = true) (hf : Region.free md ops listed i = true) (hr : (Region.ready md ops listed).contains i = true)
    (hQ : ∀ c a w, Q (.panic c) (a.put (some d) v) w → Q (.panic c) a w) (hw : Region.wanted oi (yielded ops a.tmps) = true) (hy : ∀ w, S w → (execOp a.eval oi).run P w = .ok (.value v) w) (hS : S w)
    (h : wpAnyH P md ops Q S fuel (listed.setIfInBounds i true) (a.put (some d) v) w) : wpAnyH P md ops Q S (fuel + 1) listed a w :=
  wpAnyH_take hi hs hf hr (by rw [hd]; exact hQ) (Or.inl ⟨hw, hy⟩) hS (by rw [hd]; exact h)
theorem gakeN {i d : Nat} {oi : Oper} {fuel : Nat} {listed : Array Bool} {a : Act} {w : World} (hi : ops[i]? = some oi) (hd : oi.dst = some d)
    (hs : Region.noSelect ops = true) (hf : Region.free md ops listed i = true) (hr : (Region.ready md ops listed).contains i = true)
    (hQ : ∀ c a w, Q (.panic c) (a.put (some d) undef) w → Q (.panic c) a w) (hw : Region.wanted oi (yielded ops a.tmps) = false) (hS : S w)
    (h : wpAnyH P md ops Q S fuel (listed.setIfInBounds i true) (a.put (some d) undef) w) : wpAnyH P md ops Q S (fuel + 1) listed a w :=
  wpAnyH_take hi hs hf hr (by rw [hd]; exact hQ) (Or.inr ⟨hw, rfl⟩) hS (by rw [hd]; exact h)
end
theorem isN_isNm (x : List UInt8) : isN x = isNm x := by
  unfold isN isNm
  cases x with
  | nil => rfl
  | cons c r => simp [Bool.and_assoc]
set_option maxHeartbeats 1000000 in
theorem isplain_any (s : ByteArray) (w : World) (hg : Glo w) (hs : s.size ≤ 1048576) :
    Calls Tryd.prog 65 #[.string s] w fun e w' => e = .returned (.bool (pln s.data.toList)) ∧ Below w.heap.size w w' := by
  have CV := hide (Any.utf8_ValidString laysVS s w (by omega) hg)
  have CH := hide (fun w => hascontrol_any s w)
  unfold pln
  cases hv : Lib.validD s.data.toList
  · rw [hv] at CV
    clear hg hs hv
    go_enter Tryd.func65, Tryd.ntmps65
    go_wp2_with (first | (go_at_call 31; refine CV.out.mono ?_; rintro e w1 ⟨rfl, hb⟩))
    go_ret
    exact ⟨rfl, hb⟩
  rw [hv] at CV
  cases hh : hc s.data.toList <;>
  · rw [hh] at CH
    clear hg hs hv hh
    go_enter Tryd.func65, Tryd.ntmps65
    go_wp2_with (first
      | (go_at_call 31; refine CV.out.mono ?_; rintro e w1 ⟨rfl, hb⟩)
      | (go_at_call 32; refine (CH.out _).mono ?_; rintro e w2 ⟨rfl, hb2⟩))
    go_ret
    exact ⟨rfl, hb.trans (hb2.mono hb.size)⟩
theorem ALs.take {w : World} {a : Option Addr} {ps : List At} (h : ALs w a ps) (k : Nat) : ALs w a (ps.take k) := by
  rcases h with h | ⟨b, off, h1, h2, h3⟩
  · exact Or.inl (by rw [h]; simp)
  · refine Or.inr ⟨b, off, h1, h2, fun i hi => ?_⟩
    rw [List.length_take] at hi
    have e : (ps.take k).getD i ([], []) = ps.getD i ([], []) := by
      rw [List.getD_eq_getElem?_getD, List.getD_eq_getElem?_getD, List.getElem?_take, if_pos (by omega)]
    rw [e]
    exact h3 i (by omega)
set_option maxHeartbeats 8000000 in
theorem areattrs_any (a : Option Addr) (cap n : Nat) (ps : List At) (w : World) (hg : Glo w) (hn : ps.length = n) (h : ALs w a ps) (hc : n ≤ cap ∧ cap ≤ 9223372036854775807) (hb : n ≤ 16 → ∀ p ∈ ps, p.1.length ≤ 1048576 ∧ p.2.length ≤ 1048576) :
    Calls Tryd.prog 67 #[.slice a n cap] w fun e w' => e = .returned (.bool (okA ps)) ∧ Below w.heap.size w w' := by
  obtain ⟨R, hR⟩ : ∃ R, okA ps = R := ⟨_, rfl⟩
  rw [hR]
  by_cases h16 : n ≤ 16
  · have hb := hb h16
    have h16' : ¬ (16 : Int) < (n : Int) := by omega
    have HR : Hid (allN n (okA1 ps) = R) := hide (by rw [← hR]; unfold okA; rw [hn, decide_eq_true h16]; rfl)
    have HA := hide h
    have HN := hide hn
    have HG := hide hg
    have HB := hide hb
    have HC := hide hc
    have hci : (cap : Int) ≤ 9223372036854775807 := by omega
    have hnc : (n : Int) ≤ (cap : Int) := by omega
    clear h hn hg hb hR hc
    go_enter Tryd.func67, Tryd.ntmps67
    go_wp2_with fail
    go_loopw [10] (fun vi wr => ∃ k : Nat, vi = .int .i64 k ∧ Hid (k ≤ n ∧ allN k (okA1 ps) = true ∧ Below w.heap.size w wr)) (fun vi _ => n - (RowKit.intOf vi).toNat)
    case atStart => exact ⟨0, rfl, hide ⟨by omega, rfl, Below.refl _ _⟩⟩
    case round =>
      obtain ⟨k, rfl, HK⟩ := hrel
      obtain ⟨k1, k2, k3⟩ := HK.out
      clear HK
      by_cases hj : k < n
      · have hj' : (k : Int) < (n : Int) := by omega
        have hkc : (k : Int) ≤ (cap : Int) := by omega
        rcases HA.out.below k3 with h0 | ⟨b, off, rfl, hlt, hcell⟩
        · have := HN.out; rw [h0] at this; simp at this; omega
        obtain ⟨c0, c1⟩ := hcell k (by have := HN.out; omega)
        have hmem : ps.getD k ([], []) ∈ ps := by rw [List.getD_eq_getElem?_getD, List.getElem?_eq_getElem (by have := HN.out; omega)]; exact List.getElem_mem _
        have hq := HB.out _ hmem
        have hok : okA1 ps k = (isNm (ps.getD k ([], [])).1 && !nmd (ps.take k) (ps.getD k ([], [])).1 && pln (ps.getD k ([], [])).2) := rfl
        have hal : ALs wr (some ⟨b, off, none⟩) ps := Or.inr ⟨b, off, rfl, hlt, hcell⟩
        have htl : (ps.take k).length = k := by rw [List.length_take]; have := HN.out; omega
        have hal2 := hal.take k
        generalize ps.getD k ([], []) = q at *
        obtain ⟨q1, q2⟩ := q
        simp only at c0 c1 hq hok
        have CN := fun w => isname_any ⟨q1.toArray⟩ w (by rw [size_m]; omega)
        rw [mk_l, isN_isNm] at CN
        have CP := fun w hg => isplain_any ⟨q2.toArray⟩ w hg (by rw [size_m]; omega)
        rw [mk_l] at CP
        have CD := fun w (h : ALs w (some ⟨b, off, none⟩) (ps.take k)) => named_any (some ⟨b, off, none⟩) cap (ps.take k) q1 w h (by omega)
        rw [htl] at CD
        have V0 : (wr.alloc (.cells #[.string ⟨q1.toArray⟩, .string ⟨q2.toArray⟩] 47)).cell? ⟨wr.heap.size, 0, none⟩ = some (.string ⟨q1.toArray⟩) := by simp
        have V1 : (wr.alloc (.cells #[.string ⟨q1.toArray⟩, .string ⟨q2.toArray⟩] 47)).cell? ⟨wr.heap.size, 1, none⟩ = some (.string ⟨q2.toArray⟩) := by simp
        have VL : wr.heap.size < (wr.alloc (.cells #[.string ⟨q1.toArray⟩, .string ⟨q2.toArray⟩] 47)).heap.size := by simp
        have VA := hide (hal2.below ((Below.refl wr.heap.size wr).alloc (Nat.le_refl _) (.cells #[.string ⟨q1.toArray⟩, .string ⟨q2.toArray⟩] 47)))
        have VB := k3.trans (((Below.refl wr.heap.size wr).alloc (Nat.le_refl _) (.cells #[.string ⟨q1.toArray⟩, .string ⟨q2.toArray⟩] 47)).mono k3.size)
        have VG := HG.out.below VB
        generalize (⟨q1.toArray⟩ : ByteArray) = Q1 at *
        generalize (⟨q2.toArray⟩ : ByteArray) = Q2 at *
        cases hN : isNm q1
        · rw [hN] at CN hok
          obtain rfl : R = false := by rw [← HR.out]; exact allN_no hj (by rw [hok]; rfl)
          have CN := hide CN
          clear hok hN hq hal hal2 htl hmem k2 k3 CP CD VA HR hcell
          go_upto_region 6 with (fail)
          generalize wr.heap.size = ab at *
          generalize (wr.alloc (.cells #[.string Q1, .string Q2] 47)) = V at *
          have HVB := hide VB
          have HVG := hide VG
          have HX := hide (Below.refl V.heap.size V)
          have KS := hide (show ∀ u, Below V.heap.size V u → (u.cell? ⟨ab, 0, none⟩ = some (.string Q1) ∧ u.cell? ⟨ab, 1, none⟩ = some (.string Q2)) from fun u hu => ⟨by rw [hu.cell (p := ⟨ab, 0, none⟩) VL]; exact V0, by rw [hu.cell (p := ⟨ab, 1, none⟩) VL]; exact V1⟩)
          clear VB VG VL
          refine wp_region_held_drew (S := (fun u => u.cell? ⟨ab, 0, none⟩ = some (.string Q1) ∧ u.cell? ⟨ab, 1, none⟩ = some (.string Q2))) (by kernel_rfl) (by exact KS.out _ (below_d (Below.refl V.heap.size V) (Below.refl V.drew.heap.size V.drew) rfl rfl rfl rfl)) (fun hHeld => ?_)
          refine gakeW (i := 0) (d := 15) (v := .pointer (some ⟨ab, 0, none⟩)) rfl rfl (by kernel_rfl) (by kernel_rfl) (by kernel_rfl) (fun _ _ _ h => h) (by rfl) ?_ (by assumption) ?_
          · intro x hSx
            obtain ⟨q0, q1⟩ := hSx
            go_simp
          simp only [Act.put, List.setIfInBounds_toArray, List.set_cons_zero, List.set_cons_succ]
          refine gakeW (i := 1) (d := 16) (v := .string Q1) rfl rfl (by kernel_rfl) (by kernel_rfl) (by kernel_rfl) (fun _ _ _ h => h) (by rfl) ?_ (by assumption) ?_
          · intro x hSx
            obtain ⟨q0, q1⟩ := hSx
            go_simp
          simp only [Act.put, List.setIfInBounds_toArray, List.set_cons_zero, List.set_cons_succ]
          refine wpAnyH_ready (rs := [2]) (by kernel_rfl) (by simp) ?_
          refine AllReadyH.cons rfl (fun K hK => ?_) AllReadyH.nil
          rw [if_pos (by rfl)]
          go_simp
          go_at_call 66
          refine (CN.out _).mono ?_
          rintro e wy ⟨rfl, hy⟩
          subst wy
          refine hK.out _ _ (KS.out _ (below_d HX.out (Below.refl _ _) rfl rfl rfl rfl)) (fun hHeld => ?_)
          try simp only [Act.put, List.setIfInBounds_toArray, List.set_cons_zero, List.set_cons_succ]
          clear hK K
          refine gakeW (i := 3) (d := 18) (v := .bool true) rfl rfl (by kernel_rfl) (by kernel_rfl) (by kernel_rfl) (fun _ _ _ h => h) (by rfl) ?_ (by assumption) ?_
          · intro x hSx
            obtain ⟨q0, q1⟩ := hSx
            go_simp
          simp only [Act.put, List.setIfInBounds_toArray, List.set_cons_zero, List.set_cons_succ]
          refine gakeW (i := 4) (d := 19) (v := .bool true) rfl rfl (by kernel_rfl) (by kernel_rfl) (by kernel_rfl) (fun _ _ _ h => h) (by rfl) ?_ (by assumption) ?_
          · intro x hSx
            obtain ⟨q0, q1⟩ := hSx
            go_simp
          simp only [Act.put, List.setIfInBounds_toArray, List.set_cons_zero, List.set_cons_succ]
          refine gakeN (i := 5) (d := 20) rfl rfl (by kernel_rfl) (by kernel_rfl) (by kernel_rfl) (fun _ _ _ h => h) (by rfl) (by assumption) ?_
          simp only [Act.put, List.setIfInBounds_toArray, List.set_cons_zero, List.set_cons_succ]
          refine gakeN (i := 6) (d := 21) rfl rfl (by kernel_rfl) (by kernel_rfl) (by kernel_rfl) (fun _ _ _ h => h) (by rfl) (by assumption) ?_
          simp only [Act.put, List.setIfInBounds_toArray, List.set_cons_zero, List.set_cons_succ]
          refine gakeN (i := 7) (d := 22) rfl rfl (by kernel_rfl) (by kernel_rfl) (by kernel_rfl) (fun _ _ _ h => h) (by rfl) (by assumption) ?_
          simp only [Act.put, List.setIfInBounds_toArray, List.set_cons_zero, List.set_cons_succ]
          refine gakeN (i := 8) (d := 23) rfl rfl (by kernel_rfl) (by kernel_rfl) (by kernel_rfl) (fun _ _ _ h => h) (by rfl) (by assumption) ?_
          simp only [Act.put, List.setIfInBounds_toArray, List.set_cons_zero, List.set_cons_succ]
          refine gakeN (i := 9) (d := 24) rfl rfl (by kernel_rfl) (by kernel_rfl) (by kernel_rfl) (fun _ _ _ h => h) (by rfl) (by assumption) ?_
          simp only [Act.put, List.setIfInBounds_toArray, List.set_cons_zero, List.set_cons_succ]
          refine gakeN (i := 10) (d := 25) rfl rfl (by kernel_rfl) (by kernel_rfl) (by kernel_rfl) (fun _ _ _ h => h) (by rfl) (by assumption) ?_
          simp only [Act.put, List.setIfInBounds_toArray, List.set_cons_zero, List.set_cons_succ]
          refine gakeW (i := 11) (d := 26) (v := .bool true) rfl rfl (by kernel_rfl) (by kernel_rfl) (by kernel_rfl) (fun _ _ _ h => h) (by rfl) ?_ (by assumption) ?_
          · intro x hSx
            obtain ⟨q0, q1⟩ := hSx
            go_simp
          simp only [Act.put, List.setIfInBounds_toArray, List.set_cons_zero, List.set_cons_succ]
          refine gakeW (i := 12) (d := 27) (v := .bool true) rfl rfl (by kernel_rfl) (by kernel_rfl) (by kernel_rfl) (fun _ _ _ h => h) (by rfl) ?_ (by assumption) ?_
          · intro x hSx
            obtain ⟨q0, q1⟩ := hSx
            go_simp
          simp only [Act.put, List.setIfInBounds_toArray, List.set_cons_zero, List.set_cons_succ]
          refine gakeN (i := 13) (d := 28) rfl rfl (by kernel_rfl) (by kernel_rfl) (by kernel_rfl) (fun _ _ _ h => h) (by rfl) (by assumption) ?_
          simp only [Act.put, List.setIfInBounds_toArray, List.set_cons_zero, List.set_cons_succ]
          refine gakeN (i := 14) (d := 29) rfl rfl (by kernel_rfl) (by kernel_rfl) (by kernel_rfl) (fun _ _ _ h => h) (by rfl) (by assumption) ?_
          simp only [Act.put, List.setIfInBounds_toArray, List.set_cons_zero, List.set_cons_succ]
          refine gakeN (i := 15) (d := 30) rfl rfl (by kernel_rfl) (by kernel_rfl) (by kernel_rfl) (fun _ _ _ h => h) (by rfl) (by assumption) ?_
          simp only [Act.put, List.setIfInBounds_toArray, List.set_cons_zero, List.set_cons_succ]
          refine gakeN (i := 16) (d := 31) rfl rfl (by kernel_rfl) (by kernel_rfl) (by kernel_rfl) (fun _ _ _ h => h) (by rfl) (by assumption) ?_
          simp only [Act.put, List.setIfInBounds_toArray, List.set_cons_zero, List.set_cons_succ]
          refine gakeW (i := 17) (d := 32) (v := .bool true) rfl rfl (by kernel_rfl) (by kernel_rfl) (by kernel_rfl) (fun _ _ _ h => h) (by rfl) ?_ (by assumption) ?_
          · intro x hSx
            obtain ⟨q0, q1⟩ := hSx
            go_simp
          simp only [Act.put, List.setIfInBounds_toArray, List.set_cons_zero, List.set_cons_succ]
          refine wpAnyH_done (by kernel_rfl) ?_ _
          go_wp2_with fail
          go_ret
          exact ⟨rfl, below_d (HVB.out.trans (HX.out.mono HVB.out.size)) (Below.refl _ _) rfl rfl rfl rfl⟩
        · rw [hN] at CN hok
          have CN := hide CN
          cases hD : nmd (ps.take k) q1
          · rw [hD] at CD hok
            have CD := hide CD
            cases hP : pln q2
            · rw [hP] at CP hok
              have CP := hide CP
              obtain rfl : R = false := by rw [← HR.out]; exact allN_no hj (by rw [hok]; rfl)
              clear hok hN hD hP hq hal hal2 htl hmem k2 k3 HR hcell
              go_upto_region 6 with (fail)
              generalize wr.heap.size = ab at *
              generalize (wr.alloc (.cells #[.string Q1, .string Q2] 47)) = V at *
              have HVB := hide VB
              have HVG := hide VG
              have HX := hide (Below.refl V.heap.size V)
              have KS := hide (show ∀ u, Below V.heap.size V u → (u.cell? ⟨ab, 0, none⟩ = some (.string Q1) ∧ u.cell? ⟨ab, 1, none⟩ = some (.string Q2)) from fun u hu => ⟨by rw [hu.cell (p := ⟨ab, 0, none⟩) VL]; exact V0, by rw [hu.cell (p := ⟨ab, 1, none⟩) VL]; exact V1⟩)
              clear VB VG VL
              go_region_held3 (fun u => u.cell? ⟨ab, 0, none⟩ = some (.string Q1) ∧ u.cell? ⟨ab, 1, none⟩ = some (.string Q2)) (exact KS.out _ (below_d HX.out (Below.refl _ _) rfl rfl rfl rfl)) ((first
                | (go_at_call 66; refine (CN.out _).mono ?_; rintro e wy ⟨rfl, hy⟩; subst wy)
                | (go_at_call 76; refine (CD.out _ (by exact VA.out.below (below_d HX.out (Below.refl _ _) rfl rfl rfl rfl))).mono ?_; rintro e wy ⟨rfl, hy⟩; replace HX : Hid (Below V.heap.size V wy) := hide (below_d HX.out hy rfl rfl rfl rfl); clear hy)
                | (go_at_call 65; refine (CP.out _ (by exact HVG.out.below (below_d HX.out (Below.refl _ _) rfl rfl rfl rfl))).mono ?_; rintro e wy ⟨rfl, hy⟩; replace HX : Hid (Below V.heap.size V wy) := hide (below_d HX.out hy rfl rfl rfl rfl); clear hy)))
              go_wp2_with fail
              go_ret
              exact ⟨rfl, below_d (HVB.out.trans (HX.out.mono HVB.out.size)) (Below.refl _ _) rfl rfl rfl rfl⟩
            · rw [hP] at CP hok
              have CP := hide CP
              have HST := hide (allN_step k2 (by rw [hok]; rfl))
              clear hok hN hD hP hq hal hal2 htl hmem k2 k3 hcell
              go_upto_region 6 with (fail)
              generalize wr.heap.size = ab at *
              generalize (wr.alloc (.cells #[.string Q1, .string Q2] 47)) = V at *
              have HVB := hide VB
              have HVG := hide VG
              have HX := hide (Below.refl V.heap.size V)
              have KS := hide (show ∀ u, Below V.heap.size V u → (u.cell? ⟨ab, 0, none⟩ = some (.string Q1) ∧ u.cell? ⟨ab, 1, none⟩ = some (.string Q2)) from fun u hu => ⟨by rw [hu.cell (p := ⟨ab, 0, none⟩) VL]; exact V0, by rw [hu.cell (p := ⟨ab, 1, none⟩) VL]; exact V1⟩)
              clear VB VG VL
              go_region_held3 (fun u => u.cell? ⟨ab, 0, none⟩ = some (.string Q1) ∧ u.cell? ⟨ab, 1, none⟩ = some (.string Q2)) (exact KS.out _ (below_d HX.out (Below.refl _ _) rfl rfl rfl rfl)) ((first
                | (go_at_call 66; refine (CN.out _).mono ?_; rintro e wy ⟨rfl, hy⟩; subst wy)
                | (go_at_call 76; refine (CD.out _ (by exact VA.out.below (below_d HX.out (Below.refl _ _) rfl rfl rfl rfl))).mono ?_; rintro e wy ⟨rfl, hy⟩; replace HX : Hid (Below V.heap.size V wy) := hide (below_d HX.out hy rfl rfl rfl rfl); clear hy)
                | (go_at_call 65; refine (CP.out _ (by exact HVG.out.below (below_d HX.out (Below.refl _ _) rfl rfl rfl rfl))).mono ?_; rintro e wy ⟨rfl, hy⟩; replace HX : Hid (Below V.heap.size V wy) := hide (below_d HX.out hy rfl rfl rfl rfl); clear hy)))
              go_wp2_with fail
              go_roundw
              case rel => exact ⟨k + 1, by go_num, hide ⟨by omega, HST.out, below_d (HVB.out.trans (HX.out.mono HVB.out.size)) (Below.refl _ _) rfl rfl rfl rfl⟩⟩
              case measure => simp [RowKit.intOf]; omega
          · rw [hD] at CD hok
            obtain rfl : R = false := by rw [← HR.out]; exact allN_no hj (by rw [hok]; rfl)
            have CD := hide (fun w h => CD w (VA.out.below h))
            clear hok hN hD hq hal hal2 htl hmem k2 k3 CP HR hcell
            go_upto_region 6 with (fail)
            generalize wr.heap.size = ab at *
            generalize (wr.alloc (.cells #[.string Q1, .string Q2] 47)) = V at *
            have HVB := hide VB
            have HVG := hide VG
            have HX := hide (Below.refl V.heap.size V)
            have KS := hide (show ∀ u, Below V.heap.size V u → (u.cell? ⟨ab, 0, none⟩ = some (.string Q1) ∧ u.cell? ⟨ab, 1, none⟩ = some (.string Q2)) from fun u hu => ⟨by rw [hu.cell (p := ⟨ab, 0, none⟩) VL]; exact V0, by rw [hu.cell (p := ⟨ab, 1, none⟩) VL]; exact V1⟩)
            clear VB VG VL
            refine wp_region_held_drew (S := (fun u => u.cell? ⟨ab, 0, none⟩ = some (.string Q1) ∧ u.cell? ⟨ab, 1, none⟩ = some (.string Q2))) (by kernel_rfl) (by exact KS.out _ (below_d (Below.refl V.heap.size V) (Below.refl V.drew.heap.size V.drew) rfl rfl rfl rfl)) (fun hHeld => ?_)
            refine gakeW (i := 0) (d := 15) (v := .pointer (some ⟨ab, 0, none⟩)) rfl rfl (by kernel_rfl) (by kernel_rfl) (by kernel_rfl) (fun _ _ _ h => h) (by rfl) ?_ (by assumption) ?_
            · intro x hSx
              obtain ⟨q0, q1⟩ := hSx
              go_simp
            simp only [Act.put, List.setIfInBounds_toArray, List.set_cons_zero, List.set_cons_succ]
            refine gakeW (i := 1) (d := 16) (v := .string Q1) rfl rfl (by kernel_rfl) (by kernel_rfl) (by kernel_rfl) (fun _ _ _ h => h) (by rfl) ?_ (by assumption) ?_
            · intro x hSx
              obtain ⟨q0, q1⟩ := hSx
              go_simp
            simp only [Act.put, List.setIfInBounds_toArray, List.set_cons_zero, List.set_cons_succ]
            refine wpAnyH_ready (rs := [2]) (by kernel_rfl) (by simp) ?_
            refine AllReadyH.cons rfl (fun K hK => ?_) AllReadyH.nil
            rw [if_pos (by rfl)]
            go_simp
            go_at_call 66
            refine (CN.out _).mono ?_
            rintro e wy ⟨rfl, hy⟩
            subst wy
            refine hK.out _ _ (KS.out _ (below_d HX.out (Below.refl _ _) rfl rfl rfl rfl)) (fun hHeld => ?_)
            try simp only [Act.put, List.setIfInBounds_toArray, List.set_cons_zero, List.set_cons_succ]
            clear hK K
            refine gakeW (i := 3) (d := 18) (v := .bool false) rfl rfl (by kernel_rfl) (by kernel_rfl) (by kernel_rfl) (fun _ _ _ h => h) (by rfl) ?_ (by assumption) ?_
            · intro x hSx
              obtain ⟨q0, q1⟩ := hSx
              go_simp
            simp only [Act.put, List.setIfInBounds_toArray, List.set_cons_zero, List.set_cons_succ]
            refine gakeW (i := 4) (d := 19) (v := .bool false) rfl rfl (by kernel_rfl) (by kernel_rfl) (by kernel_rfl) (fun _ _ _ h => h) (by rfl) ?_ (by assumption) ?_
            · intro x hSx
              obtain ⟨q0, q1⟩ := hSx
              go_simp
            simp only [Act.put, List.setIfInBounds_toArray, List.set_cons_zero, List.set_cons_succ]
            refine gakeW (i := 5) (d := 20) (v := .slice (some ⟨b, off, none⟩) n cap) rfl rfl (by kernel_rfl) (by kernel_rfl) (by kernel_rfl) (fun _ _ _ h => h) (by rfl) ?_ (by assumption) ?_
            · intro x hSx
              obtain ⟨q0, q1⟩ := hSx
              go_simp
            simp only [Act.put, List.setIfInBounds_toArray, List.set_cons_zero, List.set_cons_succ]
            refine gakeW (i := 6) (d := 21) (v := .int .i64 (k : Int)) rfl rfl (by kernel_rfl) (by kernel_rfl) (by kernel_rfl) (fun _ _ _ h => h) (by rfl) ?_ (by assumption) ?_
            · intro x hSx
              obtain ⟨q0, q1⟩ := hSx
              go_simp
            simp only [Act.put, List.setIfInBounds_toArray, List.set_cons_zero, List.set_cons_succ]
            refine gakeW (i := 7) (d := 22) (v := .slice (some ⟨b, off, none⟩) k cap) rfl rfl (by kernel_rfl) (by kernel_rfl) (by kernel_rfl) (fun _ _ _ h => h) (by rfl) ?_ (by assumption) ?_
            · intro x hSx
              obtain ⟨q0, q1⟩ := hSx
              go_simp
            simp only [Act.put, List.setIfInBounds_toArray, List.set_cons_zero, List.set_cons_succ]
            refine gakeW (i := 8) (d := 23) (v := .pointer (some ⟨ab, 0, none⟩)) rfl rfl (by kernel_rfl) (by kernel_rfl) (by kernel_rfl) (fun _ _ _ h => h) (by rfl) ?_ (by assumption) ?_
            · intro x hSx
              obtain ⟨q0, q1⟩ := hSx
              go_simp
            simp only [Act.put, List.setIfInBounds_toArray, List.set_cons_zero, List.set_cons_succ]
            refine gakeW (i := 9) (d := 24) (v := .string Q1) rfl rfl (by kernel_rfl) (by kernel_rfl) (by kernel_rfl) (fun _ _ _ h => h) (by rfl) ?_ (by assumption) ?_
            · intro x hSx
              obtain ⟨q0, q1⟩ := hSx
              go_simp
            simp only [Act.put, List.setIfInBounds_toArray, List.set_cons_zero, List.set_cons_succ]
            refine wpAnyH_ready (rs := [10]) (by kernel_rfl) (by simp) ?_
            refine AllReadyH.cons rfl (fun K hK => ?_) AllReadyH.nil
            rw [if_pos (by rfl)]
            go_simp
            go_at_call 76
            refine (CD.out _ (by exact below_d HX.out (Below.refl _ _) rfl rfl rfl rfl)).mono ?_
            rintro e wy ⟨rfl, hy⟩
            replace HX : Hid (Below V.heap.size V wy) := hide (below_d HX.out hy rfl rfl rfl rfl)
            clear hy
            refine hK.out _ _ (KS.out _ (below_d HX.out (Below.refl _ _) rfl rfl rfl rfl)) (fun hHeld => ?_)
            try simp only [Act.put, List.setIfInBounds_toArray, List.set_cons_zero, List.set_cons_succ]
            clear hK K
            refine gakeW (i := 11) (d := 26) (v := .bool true) rfl rfl (by kernel_rfl) (by kernel_rfl) (by kernel_rfl) (fun _ _ _ h => h) (by rfl) ?_ (by assumption) ?_
            · intro x hSx
              obtain ⟨q0, q1⟩ := hSx
              go_simp
            simp only [Act.put, List.setIfInBounds_toArray, List.set_cons_zero, List.set_cons_succ]
            refine gakeW (i := 12) (d := 27) (v := .bool true) rfl rfl (by kernel_rfl) (by kernel_rfl) (by kernel_rfl) (fun _ _ _ h => h) (by rfl) ?_ (by assumption) ?_
            · intro x hSx
              obtain ⟨q0, q1⟩ := hSx
              go_simp
            simp only [Act.put, List.setIfInBounds_toArray, List.set_cons_zero, List.set_cons_succ]
            refine gakeN (i := 13) (d := 28) rfl rfl (by kernel_rfl) (by kernel_rfl) (by kernel_rfl) (fun _ _ _ h => h) (by rfl) (by assumption) ?_
            simp only [Act.put, List.setIfInBounds_toArray, List.set_cons_zero, List.set_cons_succ]
            refine gakeN (i := 14) (d := 29) rfl rfl (by kernel_rfl) (by kernel_rfl) (by kernel_rfl) (fun _ _ _ h => h) (by rfl) (by assumption) ?_
            simp only [Act.put, List.setIfInBounds_toArray, List.set_cons_zero, List.set_cons_succ]
            refine gakeN (i := 15) (d := 30) rfl rfl (by kernel_rfl) (by kernel_rfl) (by kernel_rfl) (fun _ _ _ h => h) (by rfl) (by assumption) ?_
            simp only [Act.put, List.setIfInBounds_toArray, List.set_cons_zero, List.set_cons_succ]
            refine gakeN (i := 16) (d := 31) rfl rfl (by kernel_rfl) (by kernel_rfl) (by kernel_rfl) (fun _ _ _ h => h) (by rfl) (by assumption) ?_
            simp only [Act.put, List.setIfInBounds_toArray, List.set_cons_zero, List.set_cons_succ]
            refine gakeW (i := 17) (d := 32) (v := .bool true) rfl rfl (by kernel_rfl) (by kernel_rfl) (by kernel_rfl) (fun _ _ _ h => h) (by rfl) ?_ (by assumption) ?_
            · intro x hSx
              obtain ⟨q0, q1⟩ := hSx
              go_simp
            simp only [Act.put, List.setIfInBounds_toArray, List.set_cons_zero, List.set_cons_succ]
            refine wpAnyH_done (by kernel_rfl) ?_ _
            go_wp2_with fail
            go_ret
            exact ⟨rfl, below_d (HVB.out.trans (HX.out.mono HVB.out.size)) (Below.refl _ _) rfl rfl rfl rfl⟩
      · have hj' : ¬ (k : Int) < (n : Int) := by omega
        obtain rfl : k = n := by omega
        have hr := HR.out
        rw [k2] at hr
        subst hr
        clear k2 HR
        go_wp2_with fail
        go_ret
        exact ⟨rfl, k3⟩
  · have h16' : (16 : Int) < (n : Int) := by omega
    obtain rfl : R = false := by rw [← hR]; unfold okA; rw [hn, decide_eq_false h16]; rfl
    clear hR hn hg h hb hc h16
    go_enter Tryd.func67, Tryd.ntmps67
    go_wp2_with fail
    go_ret
    exact ⟨rfl, Below.refl _ _⟩
theorem str_emp (x : List UInt8) : ((⟨x.toArray⟩ : ByteArray).toList == []) = decide (x = []) := by
  rw [ByteArray.toList_eq]
  cases x <;> simp
theorem int_z (n : Nat) : ((n : Int) == 0) = decide (n = 0) := by
  rw [Bool.eq_iff_iff, beq_iff_eq, decide_eq_true_eq]; omega
structure TgM (t : Tg) : Prop where
  hx : t.x.length ≤ 1048576
  ht : t.t.length ≤ 1048576
  n : t.ps.length ≤ 17592186044416
  ps : t.ps.length ≤ 16 → ∀ p ∈ t.ps, p.1.length ≤ 1048576 ∧ p.2.length ≤ 1048576
abbrev tgv (t : Tg) (aa : Option Addr) (ac : Nat) : Value := .agg #[.int .i64 t.k, .string ⟨t.x.toArray⟩, .string ⟨t.t.toArray⟩, .slice aa t.ps.length ac, .int .i64 t.a]
set_option maxHeartbeats 4000000 in
theorem istoken_any (t : Tg) (aa : Option Addr) (ac : Nat) (w : World) (hg : Glo w) (hA : ALs w aa t.ps) (hc : t.ps.length ≤ ac ∧ ac ≤ 9223372036854775807) (hm : TgM t) :
    Calls Tryd.prog 48 #[tgv t aa ac] w fun e w' => e = .returned (.bool (okT t)) ∧ Below w.heap.size w w' := by
  obtain ⟨R, hR⟩ : ∃ R, okT t = R := ⟨_, rfl⟩
  rw [hR]
  obtain ⟨hbx, hbt, hbn, hba⟩ := hm
  obtain ⟨k, x, tt, ps, a⟩ := t
  simp only at hbx hbt hbn hba hA hc
  unfold okT at hR
  simp only at hR
  have CN := fun w => isname_any ⟨x.toArray⟩ w (by rw [size_m]; omega)
  rw [mk_l, isN_isNm] at CN
  have CP := fun w' (h : Below w.heap.size w w') => isplain_any ⟨tt.toArray⟩ w' (hg.below h) (by rw [size_m]; omega)
  rw [mk_l] at CP
  have CA := fun w' (h : Below w.heap.size w w') => areattrs_any aa ac ps.length ps w' (hg.below h) rfl (hA.below h) hc hba
  have ex := str_emp x
  have et := str_emp tt
  obtain ⟨n, hn⟩ : ∃ n, ps.length = n := ⟨_, rfl⟩
  have en := int_z n
  have hni : (n : Int) ≤ 17592186044416 := by omega
  dsimp only [tgv]
  rw [hn] at hR CA ⊢
  generalize (⟨x.toArray⟩ : ByteArray) = X at *
  generalize (⟨tt.toArray⟩ : ByteArray) = Y at *
  have HB0 := hide ((Below.refl w.heap.size w).alloc (Nat.le_refl _) (.cells #[.int .i64 k, .string X, .string Y, .slice aa n ac, .int .i64 a] 45))
  have KC := hide (show ∀ u, Below (w.alloc (.cells #[.int .i64 k, .string X, .string Y, .slice aa n ac, .int .i64 a] 45)).heap.size (w.alloc (.cells #[.int .i64 k, .string X, .string Y, .slice aa n ac, .int .i64 a] 45)) u → u.cell? ⟨w.heap.size, 0, none⟩ = some (.int .i64 k) ∧ u.cell? ⟨w.heap.size, 1, none⟩ = some (.string X) ∧ u.cell? ⟨w.heap.size, 2, none⟩ = some (.string Y) ∧ u.cell? ⟨w.heap.size, 3, none⟩ = some (.slice aa n ac) ∧ u.cell? ⟨w.heap.size, 4, none⟩ = some (.int .i64 a) from fun u hu => by
    have k1 := (Blk.new w #[.int .i64 k, .string X, .string Y, .slice aa n ac, .int .i64 a] 45).below hu
    exact ⟨by simpa using k1.cell 0, by simpa using k1.cell 1, by simpa using k1.cell 2, by simpa using k1.cell 3, by simpa using k1.cell 4⟩)
  clear hg hA hn hbn
  by_cases h4 : k = 4
  · rw [if_pos h4] at hR
    subst h4
    clear CN CA
    by_cases hx : x = []
    · rw [decide_eq_true hx] at hR ex
      by_cases h0 : n = 0
      · rw [decide_eq_true h0] at hR
        subst h0
        clear en
        by_cases ht : tt = []
        · rw [decide_eq_true ht] at hR et
          obtain rfl : R = false := by rw [← hR]; rfl
          clear CP
          clear hR hbx hbt hba hc
          go_enter Tryd.func48, Tryd.ntmps48
          go_wp2_with fail
          go_ret
          exact ⟨rfl, HB0.out⟩
        · rw [decide_eq_false ht] at hR et
          obtain ⟨B, hB⟩ : ∃ B, pln tt = B := ⟨_, rfl⟩
          rw [hB] at hR CP
          obtain rfl : R = B := by rw [← hR]; simp
          have CP := hide CP
          clear hR hbx hbt hba hc
          go_enter Tryd.func48, Tryd.ntmps48
          go_wp2_with (first
            | (go_at_call 65; refine (CP.out _ HB0.out).mono ?_; rintro e w1 ⟨rfl, h1⟩; replace HB0 := hide (HB0.out.trans (h1.mono HB0.out.size)); clear h1))
          go_ret
          exact ⟨rfl, HB0.out⟩
      · rw [decide_eq_false h0] at hR en
        obtain rfl : R = false := by rw [← hR]; rfl
        clear CP
        clear hR hbx hbt hba hc
        go_enter Tryd.func48, Tryd.ntmps48
        go_wp2_with fail
        go_ret
        exact ⟨rfl, HB0.out⟩
    · rw [decide_eq_false hx] at hR ex
      obtain rfl : R = false := by rw [← hR]; rfl
      clear CP
      clear hR hbx hbt hba hc
      go_enter Tryd.func48, Tryd.ntmps48
      go_wp2_with fail
      go_ret
      exact ⟨rfl, HB0.out⟩
  · have f4 : (k == 4) = false := by rw [beq_eq_false_iff_ne]; exact h4
    rw [if_neg h4] at hR
    by_cases h2 : k = 2
    · rw [if_pos h2] at hR
      subst h2
      clear h4 f4 CP CA
      cases hN : isNm x
      · rw [hN] at hR CN
        have CN := hide CN
        obtain rfl : R = false := by rw [← hR]; rfl
        clear hR hbx hbt hba hc
        go_enter Tryd.func48, Tryd.ntmps48
        go_wp2_with (first
          | (go_at_call 66; refine (CN.out _).mono ?_; rintro e w1 ⟨rfl, hy⟩; subst w1))
        go_ret
        exact ⟨rfl, HB0.out⟩
      · rw [hN] at hR CN
        have CN := hide CN
        by_cases h0 : n = 0
        · rw [decide_eq_true h0] at hR
          subst h0
          clear en
          obtain ⟨B, hB⟩ : ∃ B, decide (tt = []) = B := ⟨_, rfl⟩
          rw [hB] at hR et
          obtain rfl : R = B := by rw [← hR]; simp
          clear hR hbx hbt hba hc
          go_enter Tryd.func48, Tryd.ntmps48
          go_wp2_with (first
            | (go_at_call 66; refine (CN.out _).mono ?_; rintro e w1 ⟨rfl, hy⟩; subst w1))
          go_ret
          exact ⟨rfl, HB0.out⟩
        · rw [decide_eq_false h0] at hR en
          obtain rfl : R = false := by rw [← hR]; rfl
          clear hR hbx hbt hba hc
          go_enter Tryd.func48, Tryd.ntmps48
          go_wp2_with (first
            | (go_at_call 66; refine (CN.out _).mono ?_; rintro e w1 ⟨rfl, hy⟩; subst w1))
          go_ret
          exact ⟨rfl, HB0.out⟩
    · have f2 : (k == 2) = false := by rw [beq_eq_false_iff_ne]; exact h2
      rw [if_neg h2] at hR
      by_cases h13 : k = 1 ∨ k = 3
      · rw [if_pos h13] at hR
        clear h4 h2 f4 f2 CP en
        cases hN : isNm x
        · rw [hN] at hR CN
          have CN := hide CN
          obtain rfl : R = false := by rw [← hR]; rfl
          rcases h13 with rfl | rfl
          · clear CA
            clear hR hbx hbt hba hc
            go_enter Tryd.func48, Tryd.ntmps48
            go_wp2_with (first
              | (go_at_call 66; refine (CN.out _).mono ?_; rintro e w1 ⟨rfl, hy⟩; subst w1))
            go_ret
            exact ⟨rfl, HB0.out⟩
          · clear CA
            clear hR hbx hbt hba hc
            go_enter Tryd.func48, Tryd.ntmps48
            go_wp2_with (first
              | (go_at_call 66; refine (CN.out _).mono ?_; rintro e w1 ⟨rfl, hy⟩; subst w1))
            go_ret
            exact ⟨rfl, HB0.out⟩
        · rw [hN] at hR CN
          have CN := hide CN
          cases hO : okA ps
          · rw [hO] at hR CA
            have CA := hide CA
            obtain rfl : R = false := by rw [← hR]; rfl
            rcases h13 with rfl | rfl
            · clear hR hbx hbt hba hc
              go_enter Tryd.func48, Tryd.ntmps48
              go_wp2_with (first
                | (go_at_call 66; refine (CN.out _).mono ?_; rintro e w1 ⟨rfl, hy⟩; subst w1)
                | (go_at_call 67; refine (CA.out _ HB0.out).mono ?_; rintro e w1 ⟨rfl, h1⟩; obtain ⟨a0, a1, a2, a3, a4⟩ := KC.out w1 h1; replace HB0 := hide (HB0.out.trans (h1.mono HB0.out.size)); clear h1))
              go_ret
              exact ⟨rfl, HB0.out⟩
            · clear hR hbx hbt hba hc
              go_enter Tryd.func48, Tryd.ntmps48
              go_wp2_with (first
                | (go_at_call 66; refine (CN.out _).mono ?_; rintro e w1 ⟨rfl, hy⟩; subst w1)
                | (go_at_call 67; refine (CA.out _ HB0.out).mono ?_; rintro e w1 ⟨rfl, h1⟩; obtain ⟨a0, a1, a2, a3, a4⟩ := KC.out w1 h1; replace HB0 := hide (HB0.out.trans (h1.mono HB0.out.size)); clear h1))
              go_ret
              exact ⟨rfl, HB0.out⟩
          · rw [hO] at hR CA
            have CA := hide CA
            obtain ⟨B, hB⟩ : ∃ B, decide (tt = []) = B := ⟨_, rfl⟩
            rw [hB] at hR et
            obtain rfl : R = B := by rw [← hR]; simp
            rcases h13 with rfl | rfl
            · clear hR hbx hbt hba hc
              go_enter Tryd.func48, Tryd.ntmps48
              go_wp2_with (first
                | (go_at_call 66; refine (CN.out _).mono ?_; rintro e w1 ⟨rfl, hy⟩; subst w1)
                | (go_at_call 67; refine (CA.out _ HB0.out).mono ?_; rintro e w1 ⟨rfl, h1⟩; obtain ⟨a0, a1, a2, a3, a4⟩ := KC.out w1 h1; replace HB0 := hide (HB0.out.trans (h1.mono HB0.out.size)); clear h1))
              go_ret
              exact ⟨rfl, HB0.out⟩
            · clear hR hbx hbt hba hc
              go_enter Tryd.func48, Tryd.ntmps48
              go_wp2_with (first
                | (go_at_call 66; refine (CN.out _).mono ?_; rintro e w1 ⟨rfl, hy⟩; subst w1)
                | (go_at_call 67; refine (CA.out _ HB0.out).mono ?_; rintro e w1 ⟨rfl, h1⟩; obtain ⟨a0, a1, a2, a3, a4⟩ := KC.out w1 h1; replace HB0 := hide (HB0.out.trans (h1.mono HB0.out.size)); clear h1))
              go_ret
              exact ⟨rfl, HB0.out⟩
      · rw [if_neg h13] at hR
        subst hR
        have f1 : (k == 1) = false := by rw [beq_eq_false_iff_ne]; intro h; exact h13 (Or.inl h)
        have f3 : (k == 3) = false := by rw [beq_eq_false_iff_ne]; intro h; exact h13 (Or.inr h)
        clear h4 h2 h13 CN CP CA
        clear hbx hbt hba hc
        go_enter Tryd.func48, Tryd.ntmps48
        go_wp2_with fail
        go_ret
        exact ⟨rfl, HB0.out⟩
set_option maxHeartbeats 4000000 in
theorem aretokens_any (a : Option Addr) (cap n : Nat) (ts : List Tg) (w : World) (hg : Glo w) (hn : ts.length = n) (h6 : n ≤ 9223372036854775807) (h : GLs w a ts) (hb : ∀ t ∈ ts, TgM t) :
    Calls Tryd.prog 25 #[.slice a n cap] w fun e w' => e = .returned (.bool (okL ts)) ∧ Below w.heap.size w w' := by
  obtain ⟨R, hR⟩ : ∃ R, okL ts = R := ⟨_, rfl⟩
  rw [hR]
  unfold okL at hR
  rw [hn] at hR
  have h6' : (n : Int) ≤ 9223372036854775807 := by omega
  have HR := hide hR
  have HA := hide h
  have HN := hide hn
  have HG := hide hg
  have HB := hide hb
  clear h hn hg hb hR
  go_enter Tryd.func25, Tryd.ntmps25
  go_wp2_with fail
  go_loopw [7] (fun vi wr => ∃ k : Nat, vi = .int .i64 k ∧ Hid (k ≤ n ∧ allN k (okL1 ts) = true ∧ Below w.heap.size w wr)) (fun vi _ => n - (RowKit.intOf vi).toNat)
  case atStart => exact ⟨0, rfl, hide ⟨by omega, rfl, Below.refl _ _⟩⟩
  case round =>
    obtain ⟨k, rfl, HK⟩ := hrel
    obtain ⟨k1, k2, k3⟩ := HK.out
    clear HK
    by_cases hj : k < n
    · have hj' : (k : Int) < (n : Int) := by omega
      rcases HA.out.below k3 with h0 | ⟨b, off, rfl, hlt, hcell⟩
      · have := HN.out; rw [h0] at this; simp at this; omega
      obtain ⟨aa, ac, c0, c1, c2, c3, c4, hal, hcap⟩ := hcell k (by have := HN.out; omega)
      have hpv : 0 < k → ∃ v0, wr.cell? ⟨b, off + (k - 1) * 5, none⟩ = some (.int .i64 (ts.getD (k - 1) tg0).k) ∧ v0 = (ts.getD (k - 1) tg0).k := fun hk => by
        obtain ⟨_, _, q0, _⟩ := hcell (k - 1) (by have := HN.out; omega)
        exact ⟨_, q0, rfl⟩
      have hmem : ts.getD k tg0 ∈ ts := by rw [List.getD_eq_getElem?_getD, List.getElem?_eq_getElem (by have := HN.out; omega)]; exact List.getElem_mem _
      have hm := HB.out _ hmem
      have hok : okL1 ts k = (okT (ts.getD k tg0) && !(decide (0 < k) && ((ts.getD k tg0).k == 4) && ((ts.getD (k - 1) tg0).k == 4))) := rfl
      have CT := fun w' (h : Below wr.heap.size wr w') => istoken_any (ts.getD k tg0) aa ac w' ((HG.out.below k3).below h) (hal.below h) hcap hm
      clear hcell hm
      generalize ts.getD k tg0 = t at *
      obtain ⟨κ, x, tt, ps, ta⟩ := t
      simp only at c0 c1 c2 c3 c4 hok hal hcap
      dsimp only [tgv] at CT
      generalize (⟨x.toArray⟩ : ByteArray) = X at *
      generalize (⟨tt.toArray⟩ : ByteArray) = Y at *
      obtain ⟨m, hm⟩ : ∃ m, ps.length = m := ⟨_, rfl⟩
      rw [hm] at c3 CT hcap
      have K3 := hide k3
      have HAL := hide ((Below.refl wr.heap.size wr).alloc (Nat.le_refl _) (.cells #[.int .i64 κ, .string X, .string Y, .slice aa m ac, .int .i64 ta] 45))
      have KT := hide (show ∀ u, Below (wr.alloc (.cells #[.int .i64 κ, .string X, .string Y, .slice aa m ac, .int .i64 ta] 45)).heap.size (wr.alloc (.cells #[.int .i64 κ, .string X, .string Y, .slice aa m ac, .int .i64 ta] 45)) u → u.cell? ⟨wr.heap.size, 0, none⟩ = some (.int .i64 κ) from fun u hu => by
        have k1 := (Blk.new wr #[.int .i64 κ, .string X, .string Y, .slice aa m ac, .int .i64 ta] 45).below hu
        simpa using k1.cell 0)
      cases hO : okT ⟨κ, x, tt, ps, ta⟩
      · rw [hO] at hok CT
        have CT := hide CT
        obtain rfl : R = false := by rw [← HR.out]; exact allN_no hj (by rw [hok]; rfl)
        clear hok hO hmem hpv hal hcap k2 k3 HR hm
        go_wp2_with (first
          | (go_at_call 48; refine (CT.out _ HAL.out).mono ?_; rintro e w1 ⟨rfl, h1⟩; have HZ := hide (K3.out.trans ((HAL.out.trans (h1.mono HAL.out.size)).mono K3.out.size)); clear h1))
        go_ret
        exact ⟨rfl, HZ.out⟩
      · rw [hO] at hok CT
        have CT := hide CT
        by_cases h0 : k = 0
        · subst h0
          have HST := hide (allN_step k2 (show okL1 ts 0 = true by rw [hok]; rfl))
          simp only [Nat.zero_mul, Nat.add_zero] at c0 c1 c2 c3 c4
          clear hok hO hmem hpv hal hcap k2 k3 HR hm
          go_wp2_with (first
            | (go_at_call 48; refine (CT.out _ HAL.out).mono ?_; rintro e w1 ⟨rfl, h1⟩; have HZ := hide (K3.out.trans ((HAL.out.trans (h1.mono HAL.out.size)).mono K3.out.size)); have g0 := KT.out w1 h1; clear h1))
          go_roundw
          case rel => exact ⟨1, by first | rfl | go_num, hide ⟨by omega, HST.out, HZ.out⟩⟩
          case measure => simp [RowKit.intOf]; omega
        · have hk0 : (0 : Int) < (k : Int) := by omega
          by_cases h4 : κ = 4
          · subst h4
            obtain ⟨v0, q0, _⟩ := hpv (by omega)
            obtain ⟨p, hp⟩ : ∃ p, k - 1 = p := ⟨_, rfl⟩
            have hpe : (k : Int) - 1 = (p : Int) := by omega
            have hpn : (p : Int) < (n : Int) := by omega
            rw [hp] at q0 hok
            by_cases hv4 : (ts.getD p tg0).k = 4
            · rw [hv4] at q0
              have hf : okL1 ts k = false := by rw [hok, hv4, decide_eq_true (show 0 < k by omega)]; rfl
              obtain rfl : R = false := by rw [← HR.out]; exact allN_no hj hf
              have HQ := hide (show ∀ u, Below wr.heap.size wr u → u.cell? ⟨b, off + p * 5, none⟩ = some (.int .i64 4) from fun u hu => by rw [hu.cell (p := ⟨b, off + p * 5, none⟩) hlt]; exact q0)
              clear hok hO hmem hpv hal hcap k2 k3 HR hm hf hv4 q0 hp h0
              go_wp2_with (first
                | (go_at_call 48; refine (CT.out _ HAL.out).mono ?_; rintro e w1 ⟨rfl, h1⟩; have HZ := hide (K3.out.trans ((HAL.out.trans (h1.mono HAL.out.size)).mono K3.out.size)); have g0 := KT.out w1 h1; have g1 := HQ.out w1 (HAL.out.trans (h1.mono HAL.out.size)); clear h1))
              go_ret
              exact ⟨rfl, HZ.out⟩
            · have hf : okL1 ts k = true := by
                rw [hok, show ((ts.getD p tg0).k == 4) = false by rw [beq_eq_false_iff_ne]; exact hv4]; simp
              have HST := hide (allN_step k2 hf)
              have hvf : ((ts.getD p tg0).k == 4) = false := by rw [beq_eq_false_iff_ne]; exact hv4
              generalize (ts.getD p tg0).k = κp at *
              have HQ := hide (show ∀ u, Below wr.heap.size wr u → u.cell? ⟨b, off + p * 5, none⟩ = some (.int .i64 κp) from fun u hu => by rw [hu.cell (p := ⟨b, off + p * 5, none⟩) hlt]; exact q0)
              clear hok hO hmem hpv hal hcap k2 k3 HR hm hf hv4 q0 hp h0
              go_wp2_with (first
                | (go_at_call 48; refine (CT.out _ HAL.out).mono ?_; rintro e w1 ⟨rfl, h1⟩; have HZ := hide (K3.out.trans ((HAL.out.trans (h1.mono HAL.out.size)).mono K3.out.size)); have g0 := KT.out w1 h1; have g1 := HQ.out w1 (HAL.out.trans (h1.mono HAL.out.size)); clear h1))
              go_roundw
              case rel => exact ⟨k + 1, by go_num, hide ⟨by omega, HST.out, HZ.out⟩⟩
              case measure => simp [RowKit.intOf]; omega
          · have f4 : (κ == 4) = false := by rw [beq_eq_false_iff_ne]; exact h4
            have hf : okL1 ts k = true := by rw [hok, f4]; simp
            have HST := hide (allN_step k2 hf)
            clear hok hO hmem hpv hal hcap k2 k3 HR hm hf h4 h0
            go_wp2_with (first
              | (go_at_call 48; refine (CT.out _ HAL.out).mono ?_; rintro e w1 ⟨rfl, h1⟩; have HZ := hide (K3.out.trans ((HAL.out.trans (h1.mono HAL.out.size)).mono K3.out.size)); have g0 := KT.out w1 h1; clear h1))
            go_roundw
            case rel => exact ⟨k + 1, by go_num, hide ⟨by omega, HST.out, HZ.out⟩⟩
            case measure => simp [RowKit.intOf]; omega
    · have hj' : ¬ (k : Int) < (n : Int) := by omega
      obtain rfl : k = n := by omega
      have hr := HR.out
      rw [k2] at hr
      subst hr
      clear k2 HR
      go_wp2_with fail
      go_ret
      exact ⟨rfl, k3⟩
theorem szA_succ (ps : List At) (k : Nat) (h : k < ps.length) : szA (ps.take (k + 1)) = szA (ps.take k) + ((ps.getD k ([], [])).1.length + (ps.getD k ([], [])).2.length) := sum_take _ _ _ _ h
theorem size_m' (q : List UInt8) : (⟨q.toArray⟩ : ByteArray).size = q.length := size_m q
theorem szA_bd (ps : List At) (c : Nat) (h : ∀ p ∈ ps, p.1.length ≤ c ∧ p.2.length ≤ c) : szA ps ≤ 2 * c * ps.length := by
  induction ps with
  | nil => simp [szA]
  | cons p r ih =>
    have h1 := h p (by simp)
    have h2 := ih (fun q hq => h q (by simp [hq]))
    unfold szA at *
    rw [List.map_cons, List.sum_cons, List.length_cons, Nat.mul_add]
    omega
set_option maxHeartbeats 4000000 in
theorem size_any (t : Tg) (aa : Option Addr) (ac : Nat) (w : World) (hA : ALs w aa t.ps) (h16 : t.ps.length ≤ 16) (hm : TgM t) :
    Calls Tryd.prog 26 #[tgv t aa ac] w fun e w' => e = .returned (.int .i64 ((t.x.length + t.t.length + szA t.ps : Nat) : Int)) ∧ Below w.heap.size w w' := by
  obtain ⟨hbx, hbt, hbn, hba⟩ := hm
  obtain ⟨k, x, tt, ps, a⟩ := t
  simp only at hbx hbt hbn hba hA h16
  have hps := hba h16
  have hbd := szA_bd ps 1048576 hps
  obtain ⟨n, hn⟩ : ∃ n, ps.length = n := ⟨_, rfl⟩
  dsimp only [tgv]
  have sx := size_m' x
  have st := size_m' tt
  rw [hn] at h16 hbd ⊢
  generalize (⟨x.toArray⟩ : ByteArray) = X at *
  generalize (⟨tt.toArray⟩ : ByteArray) = Y at *
  have e0 : (X.size : Int) + (Y.size : Int) = ((x.length + tt.length : Nat) : Int) := by omega
  obtain ⟨Z, hZ⟩ : ∃ Z, x.length + tt.length = Z := ⟨_, rfl⟩
  rw [hZ] at e0 ⊢
  have hZ2 : (Z : Int) ≤ 2097152 := by omega
  have hx2 : (X.size : Int) ≤ 1048576 := by omega
  have hy2 : (Y.size : Int) ≤ 1048576 := by omega
  have hn2 : (n : Int) ≤ 16 := by omega
  have HN := hide hn
  have HA := hide hA
  have HP := hide hps
  have HBD := hide hbd
  have HB0 := hide ((Below.refl w.heap.size w).alloc (Nat.le_refl _) (.cells #[.int .i64 k, .string X, .string Y, .slice aa n ac, .int .i64 a] 45))
  clear hbx hbt hbn hba hA hps hn hbd sx st hZ h16
  go_enter Tryd.func26, Tryd.ntmps26
  go_wp2_with fail
  go_loopw [3, 16] (fun vz vi wr => ∃ j : Nat, vi = .int .i64 j ∧ vz = .int .i64 ((Z + szA (ps.take j) : Nat) : Int) ∧ Hid (j ≤ n ∧ Below w.heap.size w wr)) (fun _ vi _ => n - (RowKit.intOf vi).toNat)
  case atStart => exact ⟨0, rfl, by simp [szA], hide ⟨by omega, HB0.out⟩⟩
  case round =>
    obtain ⟨j, rfl, rfl, HJ⟩ := hrel
    obtain ⟨j1, j2⟩ := HJ.out
    clear HJ
    by_cases hj : j < n
    · have hj' : (j : Int) < (n : Int) := by omega
      rcases HA.out.below j2 with h0 | ⟨b, off, rfl, hlt, hcell⟩
      · have := HN.out; rw [h0] at this; simp at this; omega
      obtain ⟨c0, c1⟩ := hcell j (by have := HN.out; omega)
      have hsz := szA_succ ps j (by have := HN.out; omega)
      have hmem : ps.getD j ([], []) ∈ ps := by rw [List.getD_eq_getElem?_getD, List.getElem?_eq_getElem (by have := HN.out; omega)]; exact List.getElem_mem _
      have hq := HP.out _ hmem
      generalize ps.getD j ([], []) = q at *
      obtain ⟨q1, q2⟩ := q
      simp only at c0 c1 hq hsz
      have z1 := size_m' q1
      have z2 := size_m' q2
      generalize (⟨q1.toArray⟩ : ByteArray) = Q1 at *
      generalize (⟨q2.toArray⟩ : ByteArray) = Q2 at *
      have hle : szA (ps.take j) ≤ 2 * 1048576 * 16 := by
        have := szA_bd (ps.take j) 1048576 (fun p hp => HP.out p (List.mem_of_mem_take hp))
        have e : (ps.take j).length ≤ 16 := by rw [List.length_take]; have := HN.out; omega
        omega
      obtain ⟨U, hU⟩ : ∃ U, Z + szA (ps.take j) = U := ⟨_, rfl⟩
      have hU2 : (U : Int) ≤ 100000000 := by omega
      have e1 : (Q1.size : Int) + (Q2.size : Int) = ((Q1.size + Q2.size : Nat) : Int) := by omega
      obtain ⟨D, hD⟩ : ∃ D, Q1.size + Q2.size = D := ⟨_, rfl⟩
      rw [hD] at e1
      have hD2 : (D : Int) ≤ 2097152 := by omega
      have e2 : (U : Int) + (D : Int) = ((Z + szA (ps.take (j + 1)) : Nat) : Int) := by omega
      have b1 : (Q1.size : Int) ≤ 1048576 := by omega
      have b2 : (Q2.size : Int) ≤ 1048576 := by omega
      obtain ⟨M, hM⟩ : ∃ M, Z + szA (ps.take (j + 1)) = M := ⟨_, rfl⟩
      rw [hM] at e2
      have hM2 : (M : Int) ≤ 200000000 := by omega
      have HM := hide hM
      rw [hU]
      have J2 := hide (j2.alloc (by have := j2.size; omega) (.cells #[.string Q1, .string Q2] 47))
      clear hsz hmem hq hcell hU hD hM hle z1 z2
      go_wp2_with fail
      go_roundw
      case rel => exact ⟨j + 1, by go_num, by rw [HM.out], hide ⟨by omega, J2.out⟩⟩
      case measure => simp [RowKit.intOf]; omega
    · have hj' : ¬ (j : Int) < (n : Int) := by omega
      obtain rfl : j = n := by omega
      have e : ps.take j = ps := List.take_of_length_le (by have := HN.out; omega)
      rw [e]
      go_wp2_with fail
      go_ret
      exact ⟨rfl, j2⟩
end Go.Proofs.YtpmdekhjodhdmaaDoor.K17
