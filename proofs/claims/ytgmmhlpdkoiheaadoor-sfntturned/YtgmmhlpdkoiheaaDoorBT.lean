/-
  Joined: S8Te, S8To, S8Up, S8Uq, S8Ur.
-/
import Derived.Test.YtgmmhlpdkoiheaaDoorS8Td
import Derived.Test.YtgmmhlpdkoiheaaDoorS8Tc
import Derived.Deep.AppendSrc
import Derived.SliceStrings
import Derived.SizedLaws
/-
  What the landed Build and the reference's answer of any tables: one text and one error.
-/
namespace Go.Proofs.YtgmmhlpdkoiheaaDoor
open Go.RowKit Go.Deep
set_option linter.unusedVariables false
set_option linter.unusedSimpArgs false

def btS (l : List Tab) : ByteArray := if bErr l = 0 then ⟨(txtV (sorV l)).toArray⟩ else ⟨#[]⟩
def BuR (w : World) (l : List Tab) (e : Ending) (w' : World) : Prop := e = .returned (.tuple #[.string (btS l), .int .i64 (bErr l)]) ∧ Below w.heap.size w w'
theorem rbuild_any (a : Option Addr) (l : List Tab) (n c : Nat) (w : World) (hn : l.length = n) (hm : n ≤ 1073741824) (hz : ∀ x ∈ l, x.1.size ≤ 1073741824 ∧ x.2.size ≤ 1073741824) (hL : TLst w a l) :
    Calls Tryd.prog 20 #[.slice a n c] w (BuR w l) := by
  by_cases hE : bErr l = 0
  · refine (rbuild_ok a l n c w hn hm hL hE).mono ?_
    rintro e w' ⟨rfl, hb⟩
    unfold BuR btS
    rw [if_pos hE, hE]
    exact ⟨rfl, hb⟩
  · refine (rbuild_err a l n c w hn hm hz hL hE).mono ?_
    rintro e w' ⟨rfl, hb⟩
    unfold BuR btS
    rw [if_neg hE]
    exact ⟨rfl, hb⟩
set_option maxRecDepth 8000 in
set_option maxHeartbeats 4000000 in
theorem build_any (a : Option Addr) (l : List Tab) (n c : Nat) (w : World) (hn : l.length = n) (hm : n ≤ 1073741824) (hz : ∀ x ∈ l, x.1.size ≤ 1073741824 ∧ x.2.size ≤ 1073741824) (hL : TLst w a l) (hG : Glo8 w) :
    Calls Tryd.prog 19 #[.slice a n c] w (BuR w l) := by
  have hm' : (n : Int) ≤ 1073741824 := by omega
  have h80 : bErr l = 80 → btS l = ⟨#[]⟩ := fun e => by unfold btS; rw [if_neg (by rw [e]; decide)]
  by_cases h1 : n < 1
  · have e : bErr l = 80 := by unfold bErr; rw [if_pos (by omega)]
    have h1' : (n : Int) < 1 := by omega
    unfold BuR
    rw [h80 e, e]
    clear hL hn hm hz h1 e h80 hG
    go_enter Tryd.func19, Tryd.ntmps19
    go_wp2_with fail
    go_ret2
    exact ⟨rfl, Below.refl _ _⟩
  by_cases h2 : 32 < n
  · have e : bErr l = 80 := by unfold bErr; rw [if_pos (by omega)]
    have h1' : ¬ (n : Int) < 1 := by omega
    have h2' : (32 : Int) < (n : Int) := by omega
    unfold BuR
    rw [h80 e, e]
    clear hL hn hm hz h1 h2 e h80 hG
    go_enter Tryd.func19, Tryd.ntmps19
    go_wp2_with fail
    go_ret2
    exact ⟨rfl, Below.refl _ _⟩
  have h1' : ¬ (n : Int) < 1 := by omega
  have h2' : ¬ (32 : Int) < (n : Int) := by omega
  obtain ⟨g, o, rfl, hg, hcell⟩ : ∃ g o, a = some ⟨g, o, none⟩ ∧ g < w.heap.size ∧ ∀ i x, l[i]? = some x → w.cell? ⟨g, o + i * 2, none⟩ = some (.string x.1) ∧ w.cell? ⟨g, o + i * 2 + 1, none⟩ = some (.string x.2) := by
    rcases hL with hz' | h
    · rw [hz'] at hn; simp at hn; omega
    · exact h
  have CC := hide (clones_any g o c n l w hn (by omega) (by omega) hg hcell)
  have CS := hide (fun B b cap w h => sort_any B b cap n l w h hn (by omega))
  have HZ := hide hz
  have HN := hide hn
  have HG := hide hG
  have H12 := hide (show 1 ≤ n ∧ n ≤ 32 by omega)
  have H80 := hide h80
  have HFI := hide (show ∀ m : List Tab, bErr l = 0 ∧ m = sorV l → btS l = ⟨(txtV m).toArray⟩ from fun m h => by unfold btS; rw [if_pos h.1, h.2])
  have H2 := hide (show bErr l = 2 → btS l = ⟨#[]⟩ from fun e => by unfold btS; rw [if_neg (by rw [e]; decide)])
  unfold BuR
  clear hL hcell hz hG h80 h1 h2 hn hm
  go_enter Tryd.func19, Tryd.ntmps19
  go_wp2_with fail
  refine CC.out.mono ?_
  rintro e w1 ⟨b, cap, rfl, hT, hB1⟩
  have CS1 := hide (CS.out _ _ _ _ hT)
  have HB1 := hide hB1
  have hwb := hT.base.1
  clear hT hB1 CC CS
  go_wp2_with fail
  refine CS1.out.mono ?_
  rintro e w2 ⟨rfl, m, hp, hs, hT2, hB2⟩
  have hml : m.length = n := by rw [hp.length_eq]; exact HN.out
  have hzm : ∀ x ∈ m, x.1.size ≤ 1073741824 ∧ x.2.size ≤ 1073741824 := fun x hx => HZ.out x (hp.subset hx)
  have hcm : ∀ i x, m[i]? = some x → w2.cell? ⟨b, i * 2, none⟩ = some (.string x.1) ∧ w2.cell? ⟨b, i * 2 + 1, none⟩ = some (.string x.2) := fun i x hx => hT2.at2 hml i x hx
  have hb2 : b < w2.heap.size := hT2.base.2
  have herr := err_of l m hp hs (by rw [HN.out]; exact H12.out.1) (by rw [HN.out]; exact H12.out.2)
  have CL := hide (lay_any b cap n m w2 hml H12.out.1 H12.out.2 hzm hb2 hcm)
  have HB2 := hide (HB1.out.trans hB2)
  have HCM := hide hcm
  have HML := hide hml
  have HERR := hide herr
  have HPB := hide (pl_bd m n (by have := H12.out; omega) (fun x hx => (hzm x hx).2))
  clear hp hs hT2 hB2 hzm hcm herr CS1 hml
  go_wp2_with fail
  refine CL.out.mono ?_
  rintro e w3 ⟨hB3, ⟨⟨x, hx, hx4⟩, rfl⟩ | ⟨h4, r, rc, rfl, hR⟩⟩
  · have e80 : bErr l = 80 := HERR.out.1 (fun h => hx4 (h.1 x hx))
    have HB3 := hide (below_t5 HB2.out hB3)
    have HE := hide (And.intro (H80.out e80) e80)
    clear hB3 hx hx4 e80
    go_wp2_with fail
    go_ret2
    exact ⟨by rw [HE.out.1, HE.out.2]; rfl, HB3.out⟩
  · obtain ⟨RB, hRB⟩ : ∃ B, riseM [0, 0, 0, 0] m = B := ⟨_, rfl⟩
    rw [hRB]
    have HB3 := hide (below_t5 HB2.out hB3)
    cases RB with
    | false =>
      have e80 : bErr l = 80 := HERR.out.1 (fun h => by have := h.2; rw [hRB] at this; cases this)
      have HE := hide (And.intro (H80.out e80) e80)
      clear hB3 hR h4 e80 hRB
      go_wp2_with fail
      go_ret2
      exact ⟨by rw [HE.out.1, HE.out.2]; rfl, HB3.out⟩
    | true =>
      have hgo : goM m := ⟨h4, hRB⟩
      have hpb : (plT m n : Int) ≤ 40000000000 := by have := HPB.out n (Nat.le_refl _) (by have := HML.out; omega); have := H12.out; omega
      by_cases hsz : 1048576 < plT m n
      · have hsz' : (1048576 : Int) < (plT m n : Int) := by omega
        have e2 : bErr l = 2 := HERR.out.2.1 hgo (by rw [HML.out]; exact hsz)
        have HE := hide (And.intro (H2.out e2) e2)
        clear hB3 hR h4 e2 hRB hgo hsz
        go_wp2_with fail
        go_ret2
        exact ⟨by rw [HE.out.1, HE.out.2]; rfl, HB3.out⟩
      · have hsz' : ¬ (1048576 : Int) < (plT m n : Int) := by omega
        have e0 := HERR.out.2.2 hgo (by rw [HML.out]; omega)
        have HE := hide (And.intro (HFI.out m e0) e0.1)
        have CW := hide (write_any b cap r rc n m w3 HML.out H12.out.1 H12.out.2 hgo (by omega) (Nat.lt_of_lt_of_le hb2 hB3.size) (fun i x hx => by
          rw [hB3.cell (p := ⟨b, i * 2, none⟩) hb2, hB3.cell (p := ⟨b, i * 2 + 1, none⟩) hb2]
          exact HCM.out i x hx) hR (HG.out.below HB3.out))
        clear hB3 hR h4 e0 hRB hgo hsz
        go_wp2_with fail
        refine CW.out.mono ?_
        rintro e w4 ⟨rfl, hB4⟩
        have HB4 := hide (below_t5 HB3.out hB4)
        clear hB4
        go_wp2_with fail
        go_ret2
        exact ⟨by rw [HE.out.1, HE.out.2]; rfl, HB4.out⟩
end Go.Proofs.YtgmmhlpdkoiheaaDoor
/-
  Tables that came in: they lie one behind the other.
-/
namespace Go.Proofs.YtgmmhlpdkoiheaaDoor
open Go.ChangeShapes Go.WideShapes Go.RowKit Go.Deep
set_option linter.unusedVariables false
set_option linter.unnecessarySimpa false

theorem cells_str : Tryd.prog.cellsOf 9 = 1 := by kernel_rfl
theorem cells_tab : Tryd.prog.cellsOf 43 = 2 := by kernel_rfl
theorem bytes_tab : Tryd.prog.bytesOf 43 = 32 := by kernel_rfl
theorem len2 {α : Type} {l : List α} (h : l.length = 2) : ∃ a b, l = [a, b] := by
  match l, h with
  | [a, b], _ => exact ⟨a, b, rfl⟩
structure TIn (w : World) (a : Option Addr) (n : Nat) (l : List Tab) : Prop where
  len : l.length = n
  most : n ≤ 4398046511104
  lst : TLst w a l
  size : ∀ x ∈ l, x.1.size ≤ 140737488351232 ∧ x.2.size ≤ 140737488351232
section
variable {H : Type} {enc : TypeId × Value → H} {W : World} {base : Nat} {sp : Nat → Bool} {held : Bool}
theorem tab_cell {n : Nat} {cs : List Value} {y : DataW H × List MemPlace} (h : DataW.trod enc Tryd.prog W base sp held n 43 cs = some y) (hw : ∀ k ∈ y.1.weights Tryd.prog 43, k ≤ reachBytes) :
    ∃ s t : ByteArray, cs = [.string s, .string t] ∧ s.size ≤ 140737488351232 ∧ t.size ≤ 140737488351232 := by
  obtain ⟨xs, m, hm, rfl, hlen, hxl, hf⟩ := DataW.trod_struct Tryd.underlying43 h
  rw [cells_tab] at hlen
  obtain ⟨a0, a1, rfl⟩ := len2 hlen
  obtain ⟨x0, x1, rfl⟩ := len2 (show xs.length = 2 from hxl)
  have g0 := hf 0 _ rfl
  have g1 := hf 1 _ rfl
  simp [cells_str] at g0 g1
  obtain ⟨s, e0, f0, _⟩ := DataW.trod_string Tryd.underlying9 g0
  obtain ⟨t, e1, f1, _⟩ := DataW.trod_string Tryd.underlying9 g1
  simp at e0 e1
  subst e0 e1
  subst f0 f1
  have hw' : ∀ k ∈ [s.data.toList.length, t.data.toList.length], k ≤ reachBytes := fun k hk => hw k (by
    simp only [List.map_cons, List.map_nil, DataW.weights, Tryd.underlying43, DataW.weightsEach, List.mem_append]
    simp at hk ⊢
    exact hk)
  have h1 := hw' s.data.toList.length (by simp)
  have h2 := hw' t.data.toList.length (by simp)
  unfold reachBytes at h1 h2
  rw [← Lib.size_eq] at h1 h2
  exact ⟨s, t, rfl, by omega, by omega⟩
theorem tab_rows (n : Nat) : ∀ (es : List (DataW H × List MemPlace)) (b off : Nat), (∀ i, i < es.length → (W.cells? base ⟨b, off + i * 2, none⟩ 2).bind (DataW.trod enc Tryd.prog W base sp held n 43) = es[i]?) →
    (∀ k ∈ DataW.weightsAll Tryd.prog 43 (es.map (·.1)), k ≤ reachBytes) → ∃ l : List Tab, l.length = es.length ∧ (∀ x ∈ l, x.1.size ≤ 140737488351232 ∧ x.2.size ≤ 140737488351232) ∧
      ∀ i x, l[i]? = some x → W.cell? ⟨b, off + i * 2, none⟩ = some (.string x.1) ∧ W.cell? ⟨b, off + i * 2 + 1, none⟩ = some (.string x.2)
  | [], _, _, _, _ => ⟨[], rfl, by simp, by simp⟩
  | e :: es, b, off, h, hw => by
    have h0 := h 0 (by simp)
    simp only [Nat.zero_mul, Nat.add_zero, List.getElem?_cons_zero] at h0
    obtain ⟨cs, hc, ht⟩ := Option.bind_eq_some_iff.1 h0
    simp only [List.map_cons, DataW.weightsAll] at hw
    obtain ⟨s, t, rfl, h1, h2⟩ := tab_cell ht (fun k hk => hw k (List.mem_append_left _ hk))
    obtain ⟨l, hl, hs, hR⟩ := tab_rows n es b (off + 2) (fun i hi => by
      have := h (i + 1) (by simp; omega)
      rw [show off + (i + 1) * 2 = off + 2 + i * 2 by omega] at this
      simpa using this) (fun k hk => hw k (List.mem_append_right _ hk))
    obtain ⟨_, _, hcell⟩ := World.cells?_some hc
    have g : ∀ j, j < 2 → W.cell? ⟨b, off + j, none⟩ = [Value.string s, Value.string t][j]? := fun j hj => by rw [← Go.WideShapes.add_plain]; exact hcell j hj
    refine ⟨(s, t) :: l, by simp [hl], fun x hx => ?_, fun i x hx => ?_⟩
    · rcases List.mem_cons.1 hx with rfl | hx
      · exact ⟨h1, h2⟩
      · exact hs x hx
    · cases i with
      | zero => simp at hx; subst hx; exact ⟨by simpa using g 0 (by omega), by simpa using g 1 (by omega)⟩
      | succ i =>
        have := hR i x (by simpa using hx)
        rw [show off + (i + 1) * 2 = off + 2 + i * 2 by omega]
        exact this
variable {r : Reach} {b0 : Nat} {v : Value} {d : DataW H} {pl : List MemPlace}
set_option maxRecDepth 100000 in
theorem open_tabs (hv : Value.okWide Tryd.prog W r b0 27 v) (h : DataW.Trod enc Tryd.prog W base sp held 27 v d pl) (hw : ∀ k ∈ d.weights Tryd.prog 27, k ≤ reachBytes) :
    ∃ a n c l, v = .slice a n c ∧ TIn W a n l := by
  obtain ⟨a, n, c, rfl⟩ := okWide_slice Tryd.underlying27 hv
  obtain ⟨fuel, hf⟩ := h
  rcases DataW.trod_slice Tryd.underlying27 hf with ⟨hcs, _⟩ | ⟨a', len, cap, elems, rest, n', hn', hcs, hx, _, hl, hmx, hel, hei, _, _⟩
  · simp [Value.cells] at hcs
    obtain ⟨rfl, rfl, rfl⟩ := hcs
    exact ⟨none, 0, 0, [], rfl, rfl, by omega, Or.inl rfl, by simp⟩
  · simp [Value.cells] at hcs
    obtain ⟨rfl, rfl, rfl⟩ := hcs
    have hx := congrArg Prod.fst hx
    simp only at hx
    have hwt := hw ((elems.length + rest.length) * 32) (by rw [hx]; simp only [DataW.weights, Tryd.underlying27, bytes_tab, List.length_map]; exact List.mem_cons_self)
    have hwa : ∀ k ∈ DataW.weightsAll Tryd.prog 43 (elems.map (·.1)), k ≤ reachBytes := fun k hk => hw k (by rw [hx]; simp only [DataW.weights, Tryd.underlying27]; exact List.mem_cons_of_mem _ (List.mem_append_left _ hk))
    simp only [reachBytes] at hwt
    rcases Nat.eq_zero_or_pos n with h0 | h0
    · subst h0
      exact ⟨some a', 0, c, [], rfl, rfl, by omega, Or.inl rfl, by simp⟩
    · obtain ⟨b, off, spot⟩ := a'
      have h00 := hei 0 h0
      rw [List.getElem?_eq_getElem (by omega), cells_tab] at h00
      obtain ⟨cs0, hc0, _⟩ := Option.bind_eq_some_iff.1 h00
      obtain ⟨_, hcl, hcell⟩ := World.cells?_some hc0
      obtain ⟨c0, c1, rfl⟩ := len2 hcl
      have hc00 := hcell 0 (by omega)
      simp only [List.getElem?_cons_zero] at hc00
      have hspot : spot = none := by simpa [Addr.add] using World.cell?_spot hc00
      subst hspot
      have hb : b < W.heap.size := by
        have := World.cells?_block hc0 (by omega)
        simpa [Addr.add] using this
      obtain ⟨l, hl1, hl2, hl3⟩ := tab_rows n' elems b off (fun i hi => by
        have := hei i (by omega)
        rw [cells_tab, Go.WideShapes.add_plain] at this
        exact this) hwa
      exact ⟨some ⟨b, off, none⟩, n, c, l, rfl, by omega, by omega, Or.inr ⟨b, off, rfl, hb, hl3⟩, hl2⟩
theorem wts0 {P : Program} {t : TypeId} {ts : List TypeId} {d : DataW H} {r : List (DataW H)} (h : (DataW.weightsEach P (t :: ts) (d :: r)).all (· ≤ reachBytes) = true) : ∀ k ∈ d.weights P t, k ≤ reachBytes := fun k hk => by
  simpa using List.all_eq_true.1 h k (by simp only [DataW.weightsEach]; exact List.mem_append_left _ hk)
end
/- the law's long -/
def LgR (l : List Tab) (n : Nat) (w : World) (e : Ending) (w' : World) : Prop := ∃ b : Bool, e = .returned (.bool b) ∧ (b = false → n ≤ 20000 ∧ ∀ x ∈ l, x.1.size ≤ 20000 ∧ x.2.size ≤ 20000) ∧ ∃ m, w' = w.drewN m
set_option maxHeartbeats 1000000 in
theorem long_any (a : Option Addr) (l : List Tab) (n c : Nat) (w : World) (hT : TIn w a n l) :
    Calls Tryd.prog 18 #[.slice a n c] w fun e w' => LgR l n w e w' := by
  have HT := hide hT
  have h5 : (n : Int) ≤ 4398046511104 := by have := hT.most; omega
  clear hT
  go_enter Tryd.func18, Tryd.ntmps18
  go_wp2_with fail
  go_loopw [3, 4] (fun vn vi wr => ∃ (k m : Nat) (N : Int), vi = .int .i64 k ∧ vn = .int .i64 N ∧ wr = w.drewN m ∧ Hid (k ≤ n ∧ (k : Int) ≤ N ∧ N ≤ 500000000000000 ∧ ∀ i x, i < k → l[i]? = some x → (x.1.size : Int) + (x.2.size : Int) ≤ N)) (fun _ vi _ => n - (intOf vi).toNat)
  case atStart => exact ⟨0, 0, 0, rfl, rfl, rfl, hide ⟨by omega, by omega, by omega, fun i x hi => by omega⟩⟩
  case round =>
    obtain ⟨k, m, N, rfl, rfl, rfl, HV⟩ := hrel
    obtain ⟨hk, hN, hN2, hall⟩ := HV.out
    have hk0 : (0 : Int) ≤ (k : Int) := by omega
    have HALL := hide hall
    clear HV hall
    have FIN : Hid (∀ b : Bool, b = decide (20000 < N) → ¬ k < n ∨ 20000 < N → (b = false → n ≤ 20000 ∧ ∀ x ∈ l, x.1.size ≤ 20000 ∧ x.2.size ≤ 20000)) := hide fun b hb hc hf => by
      rw [hb] at hf
      simp at hf
      have hkn : k = n := by omega
      refine ⟨by omega, fun x hx => ?_⟩
      obtain ⟨i, hi, rfl⟩ := List.getElem_of_mem hx
      have hl := HT.out.len
      have := HALL.out i l[i] (by omega) (List.getElem?_eq_getElem hi)
      omega
    by_cases hlt : k < n
    · have hlt' : (k : Int) < (n : Int) := by omega
      by_cases hM : N ≤ 20000
      · have hl := HT.out.len
        obtain ⟨x, hx⟩ : ∃ x, l[k]? = some x := ⟨_, List.getElem?_eq_getElem (by omega)⟩
        rcases HT.out.lst with hz | ⟨p, po, rfl, hp, hcp⟩
        · rw [hz] at hl; simp at hl; omega
        obtain ⟨c0, c1⟩ := hcp k x hx
        obtain ⟨z1, z2⟩ := HT.out.size x (List.mem_of_getElem? hx)
        obtain ⟨x1, x2⟩ := x
        simp only at z1 z2 c0 c1
        have z1' : (x1.size : Int) ≤ 140737488351232 := by omega
        have z2' : (x2.size : Int) ≤ 140737488351232 := by omega
        have REL : Hid (∀ V : Int, V = N + (1 + x2.size + x1.size) → (k + 1 ≤ n ∧ ((k + 1 : Nat) : Int) ≤ V ∧ V ≤ 500000000000000 ∧ ∀ i x, i < k + 1 → l[i]? = some x → (x.1.size : Int) + (x.2.size : Int) ≤ V)) := hide fun V hV => ⟨by omega, by omega, by omega, fun i y hi hy => by
          rcases Nat.lt_or_ge i k with h' | h'
          · have := HALL.out i y h' hy; omega
          · obtain rfl : i = k := by omega
            rw [hx] at hy
            injection hy with hy
            subst hy
            simp only
            omega⟩
        clear hcp hl hx HALL FIN z1 z2
        go_wp2_with fail
        go_quiet (fail)
        go_wp2
        go_roundw
        case rel => exact ⟨k + 1, _, _, by go_num, rfl, rfl, hide (REL.out _ rfl)⟩
        case measure => simp [intOf]; omega
      · have hM' : ¬ N ≤ 20000 := hM
        have hM2 : 20000 < N := by omega
        go_wp2_with fail
        go_ret
        exact ⟨_, rfl, FIN.out _ (by simp; omega) (Or.inr hM2), m, rfl⟩
    · have hlt' : ¬ (k : Int) < (n : Int) := by omega
      have FN := hide (fun b hb => FIN.out b hb (Or.inl hlt))
      clear FIN
      go_wp2_with fail
      go_ret
      exact ⟨_, rfl, FN.out _ (by simp), m, rfl⟩
theorem tcs_at (l : List Tab) : ∀ (i : Nat) (x : Tab), l[i]? = some x → (tcs l)[i * 2]? = some (.string x.1) ∧ (tcs l)[i * 2 + 1]? = some (.string x.2) := by
  induction l with
  | nil => intro i x h; simp at h
  | cons y l ih =>
    intro i x h
    have e : tcs (y :: l) = .string y.1 :: .string y.2 :: tcs l := by unfold tcs; simp
    cases i with
    | zero => simp at h; subst h; rw [e]; exact ⟨rfl, rfl⟩
    | succ i =>
      have := ih i x (by simpa using h)
      rw [e, show (i + 1) * 2 = i * 2 + 1 + 1 by omega]
      simpa using this
theorem tcs_cell {w : World} {b off : Nat} {l : List Tab} (h : ∀ i x, l[i]? = some x → w.cell? ⟨b, off + i * 2, none⟩ = some (.string x.1) ∧ w.cell? ⟨b, off + i * 2 + 1, none⟩ = some (.string x.2)) : ∀ j u, (tcs l)[j]? = some u → w.cell? ⟨b, off + j, none⟩ = some u := by
  intro j u hu
  obtain ⟨i, x, hx, hh⟩ := tcs_get l j u hu
  rcases hh with ⟨rfl, rfl⟩ | ⟨rfl, rfl⟩
  · exact (h i x hx).1
  · exact (h i x hx).2
theorem app_tabs (w : World) (a : Option Addr) (n c H : Nat) (l : List Tab) (hz : l.length = n) (h : n ≤ 100000) (hL : TLst w a l) (hH : w.heap.size = H) :
    ∃ g c' w', (Builtin.append_ #[27, 27] 27 #[.slice (some ⟨H, 0, none⟩) 0 0, .slice a n c]).run Tryd.prog (w.alloc (.cells #[] 43)) = .ok (.slice (some ⟨g, 0, none⟩) n c') w' ∧ TLst w' (some ⟨g, 0, none⟩) l ∧ Below w.heap.size w w' := by
  subst hH
  obtain ⟨i0, hi, hz0, hz1, hz2⟩ := info_parts5 info_tab
  rcases Nat.eq_zero_or_pos n with h0 | h0
  · subst h0
    obtain rfl : l = [] := List.eq_nil_of_length_eq_zero hz
    have hs : Src Tryd.prog i0.size 27 (.slice a 0 c) 0 [] (w.alloc (.cells #[] 43)) := by
      cases a with
      | none => exact Src.ofNil _ Tryd.underlying27 c
      | some x => exact Src.ofSlice _ Tryd.underlying27 x 0 c [] (by simp) (by simp) (by simp)
    have hr := run_append_room_src (P := Tryd.prog) (w.alloc (.cells #[] 43)) 27 27 27 43 i0 Tryd.underlying27 hi w.heap.size 0 0 0 _ 0 [] hs (by omega) (by simp) (by simp)
    refine ⟨w.heap.size, 0, w.alloc (.cells #[] 43), by simpa [World.setCells] using hr, Or.inl rfl, (Below.refl _ _).alloc (Nat.le_refl _) _⟩
  · rcases hL with hz' | ⟨b, off, rfl, hb, hcell⟩
    · rw [hz'] at hz; simp at hz; omega
    have hs : Src Tryd.prog i0.size 27 (.slice (some ⟨b, off, none⟩) n c) n (tcs l) (w.alloc (.cells #[] 43)) := by
      refine Src.ofSlice (w.alloc (.cells #[] 43)) Tryd.underlying27 ⟨b, off, none⟩ n c _ (by rw [hz1, tcs_len, hz]) ?_ (tcs_one l)
      intro j u hu
      rw [Go.WideShapes.add_plain, World.cell?_alloc_lt _ _ _ hb]
      exact tcs_cell hcell j u hu
    have hr := run_append_grow_src (P := Tryd.prog) (w.alloc (.cells #[] 43)) 27 27 27 43 i0 (.agg #[.string ⟨#[]⟩, .string ⟨#[]⟩]) Tryd.underlying27 hi hz0 (some ⟨w.heap.size, 0, none⟩) 0 0 [] (run_firstCells_some _ i0.size 0 _ 0 0 [] (by simp) (by simp)) _ n _ hs (by omega) (by omega)
      (by rw [hz2]; have := growslice_fits (need := 0 + n) (old := 0) (bytes := 32) (by omega) (by omega); exact this)
    simp only [Nat.zero_add, List.nil_append] at hr
    have hs2 : (w.alloc (.cells #[] 43)).heap.size = w.heap.size + 1 := by simp
    rw [hs2] at hr
    have b1 : Below w.heap.size w ((w.alloc (.cells #[] 43)).drew) := ((Below.refl _ _).alloc (Nat.le_refl _) _).drew
    have hsz : ((w.alloc (.cells #[] 43)).drew).heap.size = w.heap.size + 1 := by simp
    refine ⟨_, _, _, hr, Or.inr ⟨w.heap.size + 1, 0, rfl, by simp, fun i x hi => ?_⟩, b1.alloc (by rw [hsz]; omega) _⟩
    obtain ⟨g1, g2⟩ := tcs_at l i x hi
    have l1 := (List.getElem?_eq_some_iff.1 g1).1
    have l2 := (List.getElem?_eq_some_iff.1 g2).1
    rw [Nat.zero_add, World.cell?_alloc_at _ _ _ _ hsz.symm, World.cell?_alloc_at _ _ _ _ hsz.symm]
    rw [Array.getElem?_append_left (by simpa using l1), Array.getElem?_append_left (by simpa using l2)]
    simpa using And.intro g1 g2
end Go.Proofs.YtgmmhlpdkoiheaaDoor
/-
  What stands in a file that was built, read back. Pure.
-/
namespace Go.Proofs.YtgmmhlpdkoiheaaDoor
open Go.RowKit Go.Deep
set_option linter.unusedVariables false

theorem ok_facts {l : List Tab} (hE : bErr l = 0) : goM (sorV l) ∧ (sorV l).length = l.length ∧ plT (sorV l) l.length ≤ 1048576 ∧ 1 ≤ l.length ∧ l.length ≤ 32 := by
  unfold bErr at hE
  split at hE
  · cases hE
  · rename_i h0
    split at hE
    · rename_i h1
      split at hE
      · cases hE
      · rename_i h2
        refine ⟨ok_go _ (sor_srt l) h1, sor_len l, ?_, by omega, by omega⟩
        exact Nat.le_of_not_lt fun h => h2 ((sz_iff (sorV l) l.length).2 h)
    · cases hE
theorem nbB_nat (x : Int) (j : Nat) : (nbB x j).toNat = (x / 256 ^ j % 256).toNat := by
  unfold nbB
  rw [UInt8.toNat_ofNat']
  omega
theorem num_nb4 (x : Nat) (h : x < 4294967296) : numV (nbT (x : Int) 4) = x := by
  unfold numV
  simp only [nbT, List.foldl_cons, List.foldl_nil, nbB_nat]
  omega
theorem num_nb2 (x : Nat) (h : x < 65536) : numV (nbT (x : Int) 2) = x := by
  unfold numV
  simp only [nbT, List.foldl_cons, List.foldl_nil, nbB_nat]
  omega
/- pieces -/
theorem piece_get (l : List UInt8) (a b i : Nat) : ((l.drop a).take b)[i]? = if i < b then l[a + i]? else none := by
  rw [List.getElem?_take]
  split
  · rw [List.getElem?_drop]
  · rfl
theorem row_pre (m : List Tab) (k : Nat) : ∀ d, ∃ r, rowT m (k + d) = rowT m k ++ r
  | 0 => ⟨[], by simp⟩
  | d + 1 => by
    obtain ⟨r, h⟩ := row_pre m k d
    rw [← Nat.add_assoc, rowT, h, List.append_assoc]
    exact ⟨_, rfl⟩
theorem bod_pre (m : List Tab) (k : Nat) : ∀ d, ∃ r, bodT m (k + d) = bodT m k ++ r
  | 0 => ⟨[], by simp⟩
  | d + 1 => by
    obtain ⟨r, h⟩ := bod_pre m k d
    rw [← Nat.add_assoc, bodT, h, List.append_assoc]
    exact ⟨_, rfl⟩
def rwB (m : List Tab) (k : Nat) : List UInt8 := (m.getD k tz).1.data.toList ++ f4 ((sumV (dOf m k).data.toList : Nat) : Int) ++ f4 (plT m k : Int) ++ f4 ((dOf m k).size : Int)
theorem row_piece (m : List Tab) (n k : Nat) (hok : okA m) (hn : m.length = n) (hk : k < n) : ((rowT m n).drop (16 * k)).take 16 = rwB m k := by
  obtain ⟨r, h⟩ := row_pre m (k + 1) (n - (k + 1))
  rw [show k + 1 + (n - (k + 1)) = n by omega] at h
  have h1 := row_len m hok k (by omega)
  have h2 := row_len m hok (k + 1) (by omega)
  rw [h, rowT, List.append_assoc, ← h1, List.drop_left]
  have h3 : (rwB m k).length = 16 := by
    rw [rowT, List.length_append, h1] at h2
    show ((m.getD k tz).1.data.toList ++ f4 ((sumV (dOf m k).data.toList : Nat) : Int) ++ f4 (plT m k : Int) ++ f4 ((dOf m k).size : Int)).length = 16
    omega
  show (rwB m k ++ r).take 16 = _
  rw [List.take_left' h3]
/- a file whose directory is that of tables -/
structure Laid (m : List Tab) (n : Nat) (T : List UInt8) : Prop where
  len : T.length = plT m n
  hd : T.take (12 + 16 * n) = openT n ++ rowT m n
def rwM (m : List Tab) (k : Nat) : Rw := { lyRw m k with sum := ((sumV (dOf m k).data.toList : Nat) : Int) }
theorem rowV_take (l : List UInt8) (h : 16 ≤ l.length) : rowV l = rowV (l.take 16) := by
  unfold rowV
  have e : ∀ i, i < 16 → (l.take 16).getD i 0 = l.getD i 0 := fun i hi => by
    rw [List.getD_eq_getElem?_getD, List.getD_eq_getElem?_getD, List.getElem?_take_of_lt hi]
  have e2 : ∀ i, i + 4 ≤ 16 → ((l.take 16).drop i).take 4 = (l.drop i).take 4 := fun i hi => by
    rw [List.drop_take, List.take_take, Nat.min_eq_left (by omega)]
  rw [e 0 (by omega), e 1 (by omega), e 2 (by omega), e 3 (by omega), e2 4 (by omega), e2 8 (by omega), e2 12 (by omega)]
theorem rowV_rwB (m : List Tab) (k : Nat) (h4 : (m.getD k tz).1.size = 4) (hp : plT m k < 4294967296) (hs : (m.getD k tz).2.size < 4294967296) : rowV (rwB m k) = rwM m k := by
  obtain ⟨b0, b1, b2, b3, e⟩ := four_of h4
  have hd : (dOf m k).size = (m.getD k tz).2.size := by unfold dOf; rw [ownS_size]
  have e0 : rwB m k = [b0, b1, b2, b3] ++ (nbT ((sumV (dOf m k).data.toList : Nat) : Int) 4 ++ (nbT (plT m k : Int) 4 ++ nbT ((dOf m k).size : Int) 4)) := by
    unfold rwB
    rw [nb_f4, nb_f4, nb_f4, e, List.append_assoc, List.append_assoc]
  have hS := sumV_lt (dOf m k).data.toList
  obtain ⟨SU, hSU⟩ : ∃ S, sumV (dOf m k).data.toList = S := ⟨_, rfl⟩
  rw [hSU] at e0 hS
  have l1 := nbT_len (SU : Int) 4
  have l2 := nbT_len (plT m k : Int) 4
  have l3 := nbT_len ((dOf m k).size : Int) 4
  unfold rowV rwM lyRw
  rw [hSU, e, e0]
  have q1 : ([b0, b1, b2, b3] ++ (nbT (SU : Int) 4 ++ (nbT (plT m k : Int) 4 ++ nbT ((dOf m k).size : Int) 4))).drop 4 = nbT (SU : Int) 4 ++ (nbT (plT m k : Int) 4 ++ nbT ((dOf m k).size : Int) 4) := rfl
  have q2 : ([b0, b1, b2, b3] ++ (nbT (SU : Int) 4 ++ (nbT (plT m k : Int) 4 ++ nbT ((dOf m k).size : Int) 4))).drop 8 = nbT (plT m k : Int) 4 ++ nbT ((dOf m k).size : Int) 4 := by
    rw [show 8 = 4 + 4 from rfl, ← List.drop_drop, q1, List.drop_left' l1]
  have q3 : ([b0, b1, b2, b3] ++ (nbT (SU : Int) 4 ++ (nbT (plT m k : Int) 4 ++ nbT ((dOf m k).size : Int) 4))).drop 12 = nbT ((dOf m k).size : Int) 4 := by
    rw [show 12 = 8 + 4 from rfl, ← List.drop_drop, q2, List.drop_left' l2]
  rw [q1, q2, q3, List.take_left' l1, List.take_left' l2, List.take_of_length_le (by omega), num_nb4 _ hS, num_nb4 _ hp, num_nb4 _ (by omega), hd]
  rfl
theorem laid_row {m : List Tab} {n : Nat} {T : List UInt8} (h : Laid m n T) (hgo : goM m) (hn : m.length = n) (hsz : plT m n ≤ 1048576) {k : Nat} (hk : k < n) : rwAt T k = rwM m k := by
  have hok := go_ok m hgo
  have hkl : k < m.length := by omega
  have h4 : (m.getD k tz).1.size = 4 := by rw [getD_some m k hkl]; exact hgo.1 _ (List.getElem_mem hkl)
  have hpn := pl_mono m (k + 1) (n - (k + 1))
  rw [show k + 1 + (n - (k + 1)) = n by omega] at hpn
  have hpx := pl_next m k
  have hd : (dOf m k).size = (m.getD k tz).2.size := by unfold dOf; rw [ownS_size]
  have hpl : 12 + 16 * n ≤ plT m n := by unfold plT; omega
  have hT := h.len
  unfold rwAt
  rw [rowV_take _ (by rw [List.length_drop]; omega), ← rowV_rwB m k h4 (by omega) (by omega), ← row_piece m n k hok hn hk]
  congr 1
  have e1 : (T.drop (12 + 16 * k)).take 16 = ((T.take (12 + 16 * n)).drop (12 + 16 * k)).take 16 := by
    rw [List.drop_take, List.take_take, Nat.min_eq_left (by omega)]
  rw [e1, h.hd, ← openT_len n, ← List.drop_drop, List.drop_left]
theorem laid_rows {m : List Tab} {n : Nat} {T : List UInt8} (h : Laid m n T) (hgo : goM m) (hn : m.length = n) (hsz : plT m n ≤ 1048576) : rowsV T n = (List.range n).map (rwM m) := by
  unfold rowsV
  apply List.map_congr_left
  intro k hk
  exact laid_row h hgo hn hsz (List.mem_range.1 hk)
theorem laid_head {m : List Tab} {n : Nat} {T : List UInt8} (h : Laid m n T) (h1 : 1 ≤ n) (h2 : n ≤ 32) (hn : m.length = n) : nTab T = n ∧ hdB T = true := by
  have hpl : 12 + 16 * n ≤ plT m n := by unfold plT; omega
  have hT := h.len
  have e12 : T.take 12 = openT n := by
    have : T.take 12 = (T.take (12 + 16 * n)).take 12 := by rw [List.take_take, Nat.min_eq_left (by omega)]
    rw [this, h.hd, List.take_left' (openT_len n)]
  have hnt : nTab T = n := by
    unfold nTab
    have : (T.drop 4).take 2 = ((T.take 12).drop 4).take 2 := by rw [List.drop_take, List.take_take, Nat.min_eq_left (by omega)]
    rw [this, e12, openT_eq]
    have q : ([0, 1, 0, 0] ++ (nbT (n : Int) 2 ++ srT n)).drop 4 = nbT (n : Int) 2 ++ srT n := rfl
    rw [q, List.take_left' (nbT_len _ 2), num_nb2 _ (by omega)]
  refine ⟨hnt, hd_yes ?_⟩
  rw [hnt]
  exact ⟨by omega, h1, h2, e12, by omega⟩
theorem rwM_tag (m : List Tab) (k : Nat) : tgT (rwM m k) = tgT (lyRw m k) := rfl
theorem rise_rwM (m : List Tab) (n : Nat) (hn : m.length = n) (hgo : goM m) : riseB [0, 0, 0, 0] ((List.range n).map (rwM m)) = true := by
  rw [← hgo.2]
  refine rise_eq _ _ _ (by simp [hn]) fun i r x hi hx => ?_
  obtain ⟨hil, hxe⟩ := List.getElem?_eq_some_iff.1 hx
  have e : m.getD i tz = x := by rw [getD_some m i hil, hxe]
  have h4 : (m.getD i tz).1.size = 4 := by rw [e]; exact hgo.1 x (List.mem_of_getElem? hx)
  rw [List.getElem?_map, List.getElem?_range (by omega)] at hi
  simp at hi
  subst hi
  exact ⟨by rw [rwM_tag, tgT_ly m i h4, e, Lib.toList_data], by rw [show goodT (rwM m i) = goodT (lyRw m i) from rfl, goodT_ly m i h4, e]⟩
theorem bod_mod (m : List Tab) : ∀ k, (bodT m k).length % 4 = 0
  | 0 => rfl
  | k + 1 => by
    have h1 := bod_mod m k
    have h2 := padT_len (dOf m k).data.toList
    rw [bodT, List.length_append]; omega
theorem pl_mod (m : List Tab) (k : Nat) : plT m k % 4 = 0 := by
  have := bod_mod m k
  unfold plT; omega
theorem pl_le' (m : List Tab) {i j : Nat} (h : i < j) : plT m i + (m.getD i tz).2.size ≤ plT m j := by
  have h1 := pl_next m i
  have h2 := pl_mono m (i + 1) (j - (i + 1))
  rw [show i + 1 + (j - (i + 1)) = j by omega] at h2
  have hd : (dOf m i).size = (m.getD i tz).2.size := by unfold dOf; rw [ownS_size]
  omega
theorem okG_laid (m : List Tab) (n : Nat) (hn : m.length = n) : ∀ k, k ≤ n → okG (plT m n) n ((List.range (n - k)).map (rwM m)) (((List.range n).drop (n - k)).map (rwM m)) = true := by
  intro k
  induction k with
  | zero =>
    intro _
    rw [Nat.sub_zero, List.drop_of_length_le (by simp)]; rfl
  | succ k ih =>
    intro hk
    have ih := ih (by omega)
    obtain ⟨j, hj⟩ : ∃ j, n - (k + 1) = j := ⟨_, rfl⟩
    have hj2 : n - k = j + 1 := by omega
    rw [hj2] at ih
    rw [hj, List.drop_eq_getElem_cons (by simp; omega), List.getElem_range, List.map_cons, okG]
    rw [List.range_succ, List.map_append] at ih
    have hp : plB (plT m n) n (rwM m j) = true := by
      unfold plB rwM lyRw
      simp only
      have e1 := pl_mod m j
      have e2 := pl_le' m (show j < n by omega)
      have e3 : plT m j = 12 + 16 * m.length + (bodT m j).length := rfl
      simp only [Bool.and_eq_true, decide_eq_true_eq]
      omega
    have hm : ((List.range j).map (rwM m)).any (fun q => meetB (rwM m j) q) = false := by
      rw [List.any_eq_false]
      intro q hq
      obtain ⟨i, hi, rfl⟩ := List.mem_map.1 hq
      have hi := List.mem_range.1 hi
      have e := pl_le' m hi
      unfold meetB rwM lyRw
      simp only
      intro h
      rw [decide_eq_true_eq] at h
      omega
    rw [hp, hm, Bool.not_false, Bool.true_and, Bool.true_and]
    exact ih
theorem laid_err {m : List Tab} {n : Nat} {T : List UInt8} (h : Laid m n T) (hgo : goM m) (hn : m.length = n) (h1 : 1 ≤ n) (h2 : n ≤ 32) (hsz : plT m n ≤ 1048576) :
    errV T = if ((List.range n).map (rwM m)).all (smB T) then 0 else 81 := by
  obtain ⟨hnt, hhd⟩ := laid_head h h1 h2 hn
  unfold errV
  rw [if_neg (by rw [h.len]; omega), hhd, hnt, laid_rows h hgo hn hsz, rise_rwM m n hn hgo, Bool.and_self, if_pos rfl, fauG_eq, h.len]
  have := okG_laid m n hn n (Nat.le_refl _)
  rw [Nat.sub_self, List.range_zero, List.map_nil, List.drop_zero] at this
  rw [this, if_pos rfl]
def pcT (m : List Tab) (T : List UInt8) (k : Nat) : List UInt8 := (T.drop (plT m k)).take (m.getD k tz).2.size
def pcS (m : List Tab) (T : List UInt8) (k : Nat) : Tab := ((m.getD k tz).1, ⟨(pcT m T k).toArray⟩)
theorem laid_tab {m : List Tab} {n : Nat} {T : List UInt8} (h : Laid m n T) (hgo : goM m) (hn : m.length = n) (h1 : 1 ≤ n) (h2 : n ≤ 32) (hsz : plT m n ≤ 1048576) (hE : errV T = 0) :
    tabV ⟨T.toArray⟩ = (List.range n).map (pcS m T) := by
  obtain ⟨hnt, hhd⟩ := laid_head h h1 h2 hn
  have hT : (⟨T.toArray⟩ : ByteArray).data.toList = T := rfl
  unfold tabV
  rw [hT, if_pos hE, hnt, laid_rows h hgo hn hsz, List.map_map]
  apply List.map_congr_left
  intro k hk
  have hk := List.mem_range.1 hk
  have hkl : k < m.length := by omega
  have h4 : (m.getD k tz).1.size = 4 := by rw [getD_some m k hkl]; exact hgo.1 _ (List.getElem_mem hkl)
  have e := pl_le' m hk
  show tbOf _ (rwM m k) = _
  unfold tbOf pcS
  rw [rwM_tag, tgT_ly m k h4]
  refine Prod.ext ?_ ?_
  · obtain ⟨⟨l⟩⟩ := (m.getD k tz).1; rfl
  · apply ByteArray.ext
    apply Array.toList_inj.1
    show ((⟨T.toArray⟩ : ByteArray).extract (rwM m k).pl.toNat ((rwM m k).pl.toNat + (rwM m k).ln.toNat)).data.toList = pcT m T k
    have p1 : (rwM m k).pl.toNat = plT m k := by unfold rwM lyRw; simp
    have p2 : (rwM m k).ln.toNat = (m.getD k tz).2.size := by unfold rwM lyRw; simp
    have hq : (⟨T.toArray⟩ : ByteArray).size = T.length := rfl
    rw [p1, p2, slice_list _ _ _ (by rw [hq, h.len]; omega), hT]
    unfold pcT
    rw [Nat.add_sub_cancel_left]
theorem sm_iff (m : List Tab) (T : List UInt8) (k : Nat) : smB T (rwM m k) = (sumV (dOf m k).data.toList == sumV (smdT (rwM m k) (pcT m T k))) := by
  unfold smB dtT pcT
  have p1 : (rwM m k).pl.toNat = plT m k := by unfold rwM lyRw; simp
  have p2 : (rwM m k).ln.toNat = (m.getD k tz).2.size := by unfold rwM lyRw; simp
  rw [p1, p2]
  show (((sumV (dOf m k).data.toList : Nat) : Int) == _) = _
  rw [Bool.eq_iff_iff, beq_iff_eq, beq_iff_eq]
  exact Int.natCast_inj
end Go.Proofs.YtgmmhlpdkoiheaaDoor
/-
  What Build's text is read as: the tables with head's own number put in; built again it is the same text; whole, if there is such a head. Pure.
-/
namespace Go.Proofs.YtgmmhlpdkoiheaaDoor
open Go.RowKit Go.Deep
set_option linter.unusedVariables false

/- bytes put over others -/
def putA (s : List UInt8) (o : Nat) (z : List UInt8) : List UInt8 := s.take o ++ (z ++ s.drop (o + z.length))
theorem putA_get (s z : List UInt8) (o i : Nat) (h : o + z.length ≤ s.length) : (putA s o z)[i]? = if i < o then s[i]? else if i < o + z.length then z[i - o]? else s[i]? := by
  unfold putA
  have hl : (s.take o).length = o := by rw [List.length_take]; omega
  rw [List.getElem?_append, hl]
  split
  · rename_i hi
    rw [List.getElem?_take_of_lt hi]
  · rename_i hi
    rw [List.getElem?_append]
    split
    · rename_i h2
      rw [if_pos (by omega)]
    · rename_i h2
      rw [if_neg (by omega), List.getElem?_drop]
      congr 1; omega
theorem putA_len (s z : List UInt8) (o : Nat) (h : o + z.length ≤ s.length) : (putA s o z).length = s.length := by
  unfold putA
  simp; omega
theorem putA_far (s z : List UInt8) (o a b : Nat) (h : o + z.length ≤ s.length) (hd : a + b ≤ o ∨ o + z.length ≤ a) : ((putA s o z).drop a).take b = (s.drop a).take b := by
  apply List.ext_getElem?
  intro i
  rw [piece_get, piece_get]
  split
  · rw [putA_get _ _ _ _ h]
    rcases hd with hd | hd
    · rw [if_pos (by omega)]
    · rw [if_neg (by omega), if_neg (by omega)]
  · rfl
theorem putA_in (s z : List UInt8) (p L : Nat) (hz : z.length = 4) (hL : 12 ≤ L) (h : p + L ≤ s.length) : ((putA s (p + 8) z).drop p).take L = ((s.drop p).take L).take 8 ++ (z ++ ((s.drop p).take L).drop 12) := by
  have hl : (((s.drop p).take L).take 8).length = 8 := by simp; omega
  apply List.ext_getElem?
  intro i
  rw [piece_get, List.getElem?_append, hl]
  split
  · rename_i hi
    rw [putA_get _ _ _ _ (by omega)]
    split
    · rename_i h8
      rw [if_pos (by omega), List.getElem?_take_of_lt (by omega), piece_get, if_pos hi]
    · rename_i h8
      rw [List.getElem?_append, hz]
      split
      · rename_i h12
        rw [if_neg (by omega), if_pos (by omega)]
        congr 1; omega
      · rename_i h12
        rw [if_neg (by omega), if_neg (by omega), List.getElem?_drop, piece_get, if_pos (by omega)]
        congr 1; omega
  · rename_i hi
    rw [if_neg (by omega), List.getElem?_append, hz, if_neg (by omega), List.getElem?_drop, piece_get, if_neg (by omega)]
/- the text without its own number -/
def rawT (m : List Tab) (n : Nat) : List UInt8 := openT n ++ (rowT m n ++ bodT m n)
theorem raw_len (m : List Tab) (n : Nat) (hn : m.length = n) (hok : okA m) : (rawT m n).length = plT m n := by
  have := row_len m hok n (by omega)
  unfold rawT plT
  rw [List.length_append, List.length_append, openT_len, this]; omega
theorem raw_piece (m : List Tab) (n k : Nat) (hn : m.length = n) (hok : okA m) (hk : k < n) : ((rawT m n).drop (plT m k)).take (m.getD k tz).2.size = (dOf m k).data.toList := by
  obtain ⟨r, h⟩ := bod_pre m (k + 1) (n - (k + 1))
  rw [show k + 1 + (n - (k + 1)) = n by omega] at h
  have h1 := row_len m hok n (by omega)
  have e : rawT m n = (openT n ++ rowT m n ++ bodT m k) ++ ((dOf m k).data.toList ++ (List.replicate ((4 - (dOf m k).data.toList.length % 4) % 4) 0 ++ r)) := by
    unfold rawT
    rw [h, bodT]
    unfold padT
    simp
  have hl : (openT n ++ rowT m n ++ bodT m k).length = plT m k := by
    unfold plT
    rw [List.length_append, List.length_append, openT_len, h1]; omega
  have hd : (dOf m k).data.toList.length = (m.getD k tz).2.size := by rw [← Lib.size_eq]; unfold dOf; rw [ownS_size]
  rw [e, List.drop_left' hl, List.take_left' hd]
theorem raw_hd (m : List Tab) (n : Nat) (hn : m.length = n) (hok : okA m) : (rawT m n).take (12 + 16 * n) = openT n ++ rowT m n := by
  have h1 := row_len m hok n (by omega)
  unfold rawT
  rw [← List.append_assoc, List.take_left' (by rw [List.length_append, openT_len, h1])]
/- is a table the head that holds the number? -/
def isH (m : List Tab) (k : Nat) : Bool := eqS (m.getD k tz).1 ⟨#[104, 101, 97, 100]⟩ && decide (12 ≤ (m.getD k tz).2.size)
theorem ow_cases (m : List Tab) (n : Nat) (hn : m.length = n) (hgo : goM m) : (owK m n = -1 ∧ ∀ k, k < n → isH m k = false) ∨ ∃ h, h < n ∧ isH m h = true ∧ owK m n = ((plT m h + 8 : Nat) : Int) ∧ ∀ k, k < n → k ≠ h → isH m k = false := by
  have key : ∀ j, j ≤ n → (owK m j = -1 ∧ ∀ k, k < j → isH m k = false) ∨ ∃ h, h < j ∧ isH m h = true ∧ owK m j = ((plT m h + 8 : Nat) : Int) ∧ ∀ k, k < j → k ≠ h → isH m k = false := by
    intro j
    induction j with
    | zero => intro _; exact Or.inl ⟨rfl, fun k hk => by omega⟩
    | succ j ih =>
      intro hj
      have hd : (dOf m j).size = (m.getD j tz).2.size := by unfold dOf; rw [ownS_size]
      cases hh : isH m j with
      | false =>
        have e : owK m (j + 1) = owK m j := by
          rw [owK, hd]
          unfold isH at hh
          rw [hh]; rfl
        rw [e]
        rcases ih (by omega) with ⟨h1, h2⟩ | ⟨h, h1, h2, h3, h4⟩
        · refine Or.inl ⟨h1, fun k hk => ?_⟩
          rcases Nat.lt_or_ge k j with h | h
          · exact h2 k h
          · rw [show k = j by omega]; exact hh
        · refine Or.inr ⟨h, by omega, h2, h3, fun k hk hne => ?_⟩
          rcases Nat.lt_or_ge k j with h' | h'
          · exact h4 k h' hne
          · rw [show k = j by omega]; exact hh
      | true =>
        have e : owK m (j + 1) = ((plT m j + 8 : Nat) : Int) := by
          rw [owK, hd]
          unfold isH at hh
          rw [hh]; simp
        refine Or.inr ⟨j, by omega, hh, e, fun k hk hne => ?_⟩
        cases hk2 : isH m k with
        | false => rfl
        | true =>
          exfalso
          unfold isH at hh hk2
          rw [Bool.and_eq_true, getD_some m j (by omega), eqS_iff] at hh
          rw [Bool.and_eq_true, getD_some m k (by omega), eqS_iff] at hk2
          exact st_ne ((go_iff m).1 hgo).2 (show k < j by omega) (by omega) (hk2.1.trans hh.1.symm)
  exact key n (Nat.le_refl _)
/- the four bytes -/
def nuT (m : List Tab) (n : Nat) : List UInt8 := f4 ((2981146554 - ((sumV (rawT m n) : Nat) : Int)) % 4294967296)
theorem nu_len (m : List Tab) (n : Nat) : (nuT m n).length = 4 := f4_len _
theorem txt_raw (m : List Tab) (n : Nat) (hn : m.length = n) (h : owK m n = -1) : txtV m = rawT m n := by
  unfold txtV
  rw [hn, h]; rfl
theorem txt_put (m : List Tab) (n o : Nat) (hn : m.length = n) (h : owK m n = (o : Int)) : txtV m = putA (rawT m n) o (nuT m n) := by
  unfold txtV putA
  rw [hn, h, if_pos (by omega), nu_len, Int.toNat_natCast]; rfl
/- the tables as they are read -/
def bkD (m : List Tab) (n k : Nat) : List UInt8 := if isH m k = true then (m.getD k tz).2.data.toList.take 8 ++ (nuT m n ++ (m.getD k tz).2.data.toList.drop 12) else (m.getD k tz).2.data.toList
def bkS (m : List Tab) (n k : Nat) : Tab := ((m.getD k tz).1, ⟨(bkD m n k).toArray⟩)
def bkM (m : List Tab) (n : Nat) : List Tab := (List.range n).map (bkS m n)
theorem isH_hd (m : List Tab) (k : Nat) (h4 : (m.getD k tz).1.size = 4) : isH m k = (isHd (rwM m k).b0 (rwM m k).b1 (rwM m k).b2 (rwM m k).b3 && decide (12 ≤ (m.getD k tz).2.size)) := by
  obtain ⟨b0, b1, b2, b3, e⟩ := four_of h4
  unfold isH rwM lyRw
  rw [e, eqS_hd, hd_eq]; rfl
theorem dOf_list (m : List Tab) (k : Nat) (h4 : (m.getD k tz).1.size = 4) : (dOf m k).data.toList = if isH m k = true then (m.getD k tz).2.data.toList.take 8 ++ ([0, 0, 0, 0] ++ (m.getD k tz).2.data.toList.drop 12) else (m.getD k tz).2.data.toList := by
  obtain ⟨b0, b1, b2, b3, e⟩ := four_of h4
  have h := smS_list ⟨b0, b1, b2, b3, 0, 0, 0⟩ (m.getD k tz).2
  have e1 : dOf m k = smS b0 b1 b2 b3 (m.getD k tz).2 := by unfold dOf ownS; rw [e]
  rw [e1, h]
  unfold smdT isH
  rw [e, eqS_hd, hd_eq, ← Lib.size_eq]
theorem smd_of (m : List Tab) (k : Nat) (d : List UInt8) (h4 : (m.getD k tz).1.size = 4) (hd : d.length = (m.getD k tz).2.size) : smdT (rwM m k) d = if isH m k = true then d.take 8 ++ ([0, 0, 0, 0] ++ d.drop 12) else d := by
  unfold smdT
  rw [isH_hd m k h4, hd]
theorem bkD_len (m : List Tab) (n k : Nat) : (bkD m n k).length = (m.getD k tz).2.size := by
  unfold bkD
  split
  · rename_i h
    unfold isH at h
    rw [Bool.and_eq_true, decide_eq_true_eq] at h
    rw [List.length_append, List.length_append, nu_len, List.length_take, List.length_drop, ← Lib.size_eq]; omega
  · rw [← Lib.size_eq]
theorem smd_bk (m : List Tab) (n k : Nat) (h4 : (m.getD k tz).1.size = 4) : smdT (rwM m k) (bkD m n k) = (dOf m k).data.toList := by
  rw [smd_of m k _ h4 (bkD_len m n k), dOf_list m k h4]
  unfold bkD
  by_cases h : isH m k = true
  · have h' := h
    unfold isH at h'
    rw [Bool.and_eq_true, decide_eq_true_eq] at h'
    have hl : ((m.getD k tz).2.data.toList.take 8).length = 8 := by rw [List.length_take, ← Lib.size_eq]; omega
    rw [if_pos h, if_pos h, if_pos h, List.take_left' hl, ← List.append_assoc _ (nuT m n), List.drop_left' (by rw [List.length_append, hl, nu_len])]
  · rw [if_neg h, if_neg h, if_neg h]
section
variable {m : List Tab} {n : Nat} (hgo : goM m) (hn : m.length = n)
include hgo hn
theorem h4_of {k : Nat} (hk : k < n) : (m.getD k tz).1.size = 4 := by
  rw [getD_some m k (by omega)]; exact hgo.1 _ (List.getElem_mem (by omega))
theorem txt_both : Laid m n (txtV m) ∧ ∀ k, k < n → pcT m (txtV m) k = bkD m n k := by
  have hok := go_ok m hgo
  have hl := raw_len m n hn hok
  have hpl : 12 + 16 * n ≤ plT m n := by unfold plT; omega
  rcases ow_cases m n hn hgo with ⟨h1, h2⟩ | ⟨h, h1, h2, h3, h5⟩
  · rw [txt_raw m n hn h1]
    refine ⟨⟨hl, raw_hd m n hn hok⟩, fun k hk => ?_⟩
    unfold pcT bkD
    rw [raw_piece m n k hn hok hk, dOf_list m k (h4_of hgo hn hk), h2 k hk]
    simp
  · rw [txt_put m n _ hn h3]
    have h2' := h2
    unfold isH at h2'
    rw [Bool.and_eq_true, decide_eq_true_eq] at h2'
    have hph := pl_le' m h1
    have hzl := nu_len m n
    have hfit : plT m h + 8 + (nuT m n).length ≤ (rawT m n).length := by omega
    have hp0 : 12 + 16 * n ≤ plT m h := by unfold plT; omega
    refine ⟨⟨by rw [putA_len _ _ _ hfit]; exact hl, ?_⟩, fun k hk => ?_⟩
    · have := putA_far (rawT m n) (nuT m n) (plT m h + 8) 0 (12 + 16 * n) hfit (Or.inl (by omega))
      rw [List.drop_zero, List.drop_zero] at this
      rw [this]; exact raw_hd m n hn hok
    · unfold pcT
      by_cases hkh : k = h
      · subst hkh
        rw [putA_in _ _ _ _ hzl h2'.2 (by omega), raw_piece m n k hn hok hk, dOf_list m k (h4_of hgo hn hk)]
        unfold bkD
        have hl8 : ((m.getD k tz).2.data.toList.take 8).length = 8 := by rw [List.length_take, ← Lib.size_eq]; omega
        rw [if_pos h2, if_pos h2, List.take_left' hl8, ← List.append_assoc _ [0, 0, 0, 0], List.drop_left' (by rw [List.length_append, hl8]; rfl)]
      · rw [putA_far _ _ _ _ _ hfit ?_, raw_piece m n k hn hok hk, dOf_list m k (h4_of hgo hn hk)]
        · unfold bkD
          rw [h5 k hk hkh]; simp
        · rcases Nat.lt_or_ge k h with h' | h'
          · have := pl_le' m h'; left; omega
          · have := pl_le' m (show h < k by omega); right; omega
theorem txt_err (h1 : 1 ≤ n) (h2 : n ≤ 32) (hsz : plT m n ≤ 1048576) : errV (txtV m) = 0 := by
  obtain ⟨hL, hP⟩ := txt_both hgo hn
  rw [laid_err hL hgo hn h1 h2 hsz, if_pos]
  rw [List.all_eq_true]
  intro r hr
  obtain ⟨k, hk, rfl⟩ := List.mem_map.1 hr
  have hk := List.mem_range.1 hk
  rw [sm_iff, hP k hk, smd_bk m n k (h4_of hgo hn hk), beq_iff_eq]
theorem txt_tab (h1 : 1 ≤ n) (h2 : n ≤ 32) (hsz : plT m n ≤ 1048576) : tabV ⟨(txtV m).toArray⟩ = bkM m n := by
  obtain ⟨hL, hP⟩ := txt_both hgo hn
  rw [laid_tab hL hgo hn h1 h2 hsz (txt_err hgo hn h1 h2 hsz)]
  unfold bkM
  apply List.map_congr_left
  intro k hk
  unfold pcS bkS
  rw [hP k (List.mem_range.1 hk)]
end
end Go.Proofs.YtgmmhlpdkoiheaaDoor
/-
  What is read of a built file, built again; whether it is whole; what is found of its tables. Pure.
-/
namespace Go.Proofs.YtgmmhlpdkoiheaaDoor
open Go.RowKit Go.Deep
set_option linter.unusedVariables false
set_option linter.unusedSectionVars false

theorem bk_len (m : List Tab) (n : Nat) : (bkM m n).length = n := by unfold bkM; simp
theorem bk_at (m : List Tab) (n k : Nat) (h : k < n) : (bkM m n)[k]? = some (bkS m n k) := by unfold bkM; simp [h]
theorem bk_getD (m : List Tab) (n k : Nat) (h : k < n) : (bkM m n).getD k tz = bkS m n k := by rw [List.getD_eq_getElem?_getD, bk_at m n k h]; rfl
theorem rise_cong : ∀ (m m' : List Tab) (a : List UInt8), m.map (·.1) = m'.map (·.1) → riseM a m = riseM a m'
  | [], [], a, _ => rfl
  | [], x :: m', a, h => by simp at h
  | x :: m, [], a, h => by simp at h
  | x :: m, y :: m', a, h => by
    simp only [List.map_cons, List.cons.injEq] at h
    rw [riseM, riseM, h.1, rise_cong m m' _ h.2]
theorem bs_ext {a b : ByteArray} (h : a.data.toList = b.data.toList) : a = b := by
  apply ByteArray.ext
  exact Array.toList_inj.1 h
theorem fin_of (l : List Tab) (hd : l.Pairwise fun x y => x.1 ≠ y.1) (x : Tab) (hx : x ∈ l) : finV l x.1 = some x.2 := by
  induction l with
  | nil => simp at hx
  | cons y l ih =>
    have hd' := List.pairwise_cons.1 hd
    unfold finV
    by_cases e : y.1 = x.1
    · rw [List.find?_cons_of_pos (by rw [eqS_iff]; exact e)]
      rcases List.mem_cons.1 hx with rfl | hx
      · rfl
      · exact absurd e (hd'.1 x hx)
    · rw [List.find?_cons_of_neg (by rw [eqS_no e]; simp)]
      rcases List.mem_cons.1 hx with rfl | hx
      · exact absurd rfl e
      · exact ih hd'.2 hx
theorem st_pw {m : List Tab} (h : StT m) : m.Pairwise fun x y => x.1 ≠ y.1 := h.imp fun {a b} hab e => by rw [e, less_irrefl] at hab; cases hab
theorem st_srt {m : List Tab} (h : StT m) : Srt m := h.imp fun {a b} hab => less_no hab
section
variable {m : List Tab} {n : Nat} (hgo : goM m) (hn : m.length = n)
include hn
theorem bk_tags : (bkM m n).map (·.1) = m.map (·.1) := by
  apply List.ext_getElem?
  intro i
  rw [List.getElem?_map, List.getElem?_map]
  rcases Nat.lt_or_ge i n with h | h
  · rw [bk_at m n i h, List.getElem?_eq_getElem (by omega)]
    show some (m.getD i tz).1 = _
    rw [getD_some m i (by omega)]; rfl
  · rw [List.getElem?_eq_none (by rw [bk_len]; exact h), List.getElem?_eq_none (by omega)]
include hgo
theorem bk_go : goM (bkM m n) := by
  refine ⟨fun x hx => ?_, by rw [rise_cong _ m _ (bk_tags hn)]; exact hgo.2⟩
  unfold bkM at hx
  obtain ⟨k, hk, rfl⟩ := List.mem_map.1 hx
  exact h4_of hgo hn (List.mem_range.1 hk)
theorem bk_isH {k : Nat} (hk : k < n) : isH (bkM m n) k = isH m k := by
  unfold isH
  rw [bk_getD m n k hk]
  have : (bkS m n k).2.size = (m.getD k tz).2.size := by rw [Lib.size_eq]; exact bkD_len m n k
  rw [this]; rfl
theorem bk_dOf {k : Nat} (hk : k < n) : dOf (bkM m n) k = dOf m k := by
  apply bs_ext
  rw [dOf_list m k (h4_of hgo hn hk), dOf_list _ k (by rw [bk_getD m n k hk]; exact h4_of hgo hn hk), bk_isH hgo hn hk, bk_getD m n k hk]
  have e : (bkS m n k).2.data.toList = bkD m n k := rfl
  rw [e]
  unfold bkD
  by_cases h : isH m k = true
  · have h' := h
    unfold isH at h'
    rw [Bool.and_eq_true, decide_eq_true_eq] at h'
    have hl : ((m.getD k tz).2.data.toList.take 8).length = 8 := by rw [List.length_take, ← Lib.size_eq]; omega
    rw [if_pos h, if_pos h, if_pos h, List.take_left' hl, ← List.append_assoc _ (nuT m n), List.drop_left' (by rw [List.length_append, hl, nu_len])]
  · rw [if_neg h, if_neg h, if_neg h]
theorem bk_bod : ∀ k, k ≤ n → bodT (bkM m n) k = bodT m k
  | 0, _ => rfl
  | k + 1, hk => by rw [bodT, bodT, bk_bod k (by omega), bk_dOf hgo hn (by omega)]
theorem bk_pl {k : Nat} (hk : k ≤ n) : plT (bkM m n) k = plT m k := by
  unfold plT
  rw [bk_bod hgo hn k hk, bk_len, hn]
theorem bk_row : ∀ k, k ≤ n → rowT (bkM m n) k = rowT m k
  | 0, _ => rfl
  | k + 1, hk => by
    rw [rowT, rowT, bk_row k (by omega), bk_dOf hgo hn (by omega), bk_pl hgo hn (by omega), bk_getD m n k (by omega)]; rfl
theorem bk_ow : ∀ k, k ≤ n → owK (bkM m n) k = owK m k
  | 0, _ => rfl
  | k + 1, hk => by
    rw [owK, owK, bk_ow k (by omega), bk_dOf hgo hn (by omega), bk_pl hgo hn (by omega), bk_getD m n k (by omega)]; rfl
theorem bk_txt : txtV (bkM m n) = txtV m := by
  unfold txtV
  rw [bk_len, hn, bk_row hgo hn n (Nat.le_refl _), bk_bod hgo hn n (Nat.le_refl _), bk_ow hgo hn n (Nat.le_refl _)]
theorem bk_again (h1 : 1 ≤ n) (h2 : n ≤ 32) (hsz : plT m n ≤ 1048576) : bErr (bkM m n) = 0 ∧ btS (bkM m n) = ⟨(txtV m).toArray⟩ := by
  have hg' := bk_go hgo hn
  have hst := ((go_iff _).1 hg').2
  have h := err_of (bkM m n) (bkM m n) (List.Perm.refl _) (st_srt hst) (by rw [bk_len]; exact h1) (by rw [bk_len]; exact h2)
  obtain ⟨e1, e2⟩ := h.2.2 hg' (by rw [bk_len, bk_pl hgo hn (Nat.le_refl _)]; exact hsz)
  refine ⟨e1, ?_⟩
  unfold btS
  rw [if_pos e1, ← e2, bk_txt hgo hn]
theorem txt_sum {h : Nat} (hh : h < n) (hH : isH m h = true) (ho : owK m n = ((plT m h + 8 : Nat) : Int)) : sumV (txtV m) = 2981146554 := by
  have hok := go_ok m hgo
  have hl := raw_len m n hn hok
  have hH' := hH
  unfold isH at hH'
  rw [Bool.and_eq_true, decide_eq_true_eq] at hH'
  have hph := pl_le' m hh
  have hzl := nu_len m n
  have hp := raw_piece m n h hn hok hh
  rw [dOf_list m h (h4_of hgo hn hh), if_pos hH] at hp
  have hl8 : ((m.getD h tz).2.data.toList.take 8).length = 8 := by rw [List.length_take, ← Lib.size_eq]; omega
  have hz4 : ((rawT m n).drop (plT m h + 8)).take 4 = [0, 0, 0, 0] := by
    have e : ((((rawT m n).drop (plT m h)).take (m.getD h tz).2.size).drop 8).take 4 = (((m.getD h tz).2.data.toList.take 8 ++ ([0, 0, 0, 0] ++ (m.getD h tz).2.data.toList.drop 12)).drop 8).take 4 := by rw [hp]
    rw [List.drop_left' hl8, List.take_left' (show [(0 : UInt8), 0, 0, 0].length = 4 from rfl), List.drop_take, List.take_take, Nat.min_eq_left (by omega), List.drop_drop] at e
    exact e
  rw [txt_put m n _ hn ho]
  obtain ⟨R, hR⟩ : ∃ R, rawT m n = R := ⟨_, rfl⟩
  obtain ⟨Z, hZ⟩ : ∃ Z, nuT m n = Z := ⟨_, rfl⟩
  obtain ⟨p, hpp⟩ : ∃ p, plT m h = p := ⟨_, rfl⟩
  have hmod := pl_mod m h
  rw [hR] at hl hz4 ⊢
  rw [hZ] at hzl ⊢
  rw [hpp] at hph hz4 hmod ⊢
  have hfit : p + 8 + Z.length ≤ R.length := by omega
  have hlen := putA_len R Z (p + 8) hfit
  have ht8 : (R.take (p + 8)).length = p + 8 := by rw [List.length_take]; omega
  have es := sum_zero (putA R (p + 8) Z) p hmod (by rw [hlen]; omega)
  have e1 : (putA R (p + 8) Z).take (p + 8) = R.take (p + 8) := by unfold putA; rw [List.take_left' ht8]
  have e2 : (putA R (p + 8) Z).drop (p + 12) = R.drop (p + 12) := by
    unfold putA
    rw [← List.append_assoc, List.drop_left' (by rw [List.length_append, ht8]; omega), hzl]
  have e3 : R.take (p + 8) ++ ([0, 0, 0, 0] ++ R.drop (p + 12)) = R := by
    have q : (R.drop (p + 8)).take 4 ++ R.drop (p + 12) = R.drop (p + 8) := by
      have := List.take_append_drop 4 (R.drop (p + 8))
      rw [List.drop_drop] at this
      exact this
    rw [← hz4, q, List.take_append_drop]
  have e4 : ((putA R (p + 8) Z).drop (p + 8)).take 4 = Z := by
    unfold putA
    rw [List.drop_left' ht8, List.take_left' hzl]
  rw [e1, e2, e3, ← num4 _ _ (by rw [hlen]; omega), e4] at es
  have hv : numV Z = ((2981146554 - ((sumV R : Nat) : Int)) % 4294967296).toNat := by
    rw [← hZ]
    unfold nuT
    rw [hR, nb_f4]
    have := num_nb4 ((2981146554 - ((sumV R : Nat) : Int)) % 4294967296).toNat (by omega)
    rw [Int.toNat_of_nonneg (by omega)] at this
    exact this
  have hs := sumV_lt R
  rw [es, hv]
  omega
theorem txt_who (h1 : 1 ≤ n) (h2 : n ≤ 32) (hsz : plT m n ≤ 1048576) : whoB ⟨(txtV m).toArray⟩ = (List.range n).any (isH m) := by
  unfold whoB
  rw [txt_tab hgo hn h1 h2 hsz]
  have hst := ((go_iff _).1 (bk_go hgo hn)).2
  rcases ow_cases m n hn hgo with ⟨_, hno⟩ | ⟨h, hh, hH, ho, _⟩
  · have e : (List.range n).any (isH m) = false := by
      rw [List.any_eq_false]
      intro k hk
      rw [hno k (List.mem_range.1 hk)]; simp
    rw [e]
    cases hf : finV (bkM m n) hdS with
    | none => rfl
    | some d =>
      unfold finV at hf
      obtain ⟨x, hx, rfl⟩ := Option.map_eq_some_iff.1 hf
      have hx1 := List.find?_some hx
      have hx2 := List.mem_of_find?_eq_some hx
      unfold bkM at hx2
      obtain ⟨k, hk, rfl⟩ := List.mem_map.1 hx2
      have hk := List.mem_range.1 hk
      have hh := hno k hk
      rw [← bk_isH hgo hn hk] at hh
      unfold isH at hh
      rw [bk_getD m n k hk] at hh
      rw [show eqS (bkS m n k).1 ⟨#[104, 101, 97, 100]⟩ = true from hx1, Bool.true_and] at hh
      unfold whV
      simp only
      rw [hh]; rfl
  · have e : (List.range n).any (isH m) = true := by
      rw [List.any_eq_true]
      exact ⟨h, List.mem_range.2 hh, hH⟩
    have hH2 := hH
    rw [← bk_isH hgo hn hh] at hH2
    unfold isH at hH2
    rw [bk_getD m n h hh, Bool.and_eq_true, decide_eq_true_eq, eqS_iff] at hH2
    have hf := fin_of (bkM m n) (st_pw hst) (bkS m n h) (List.mem_of_getElem? (bk_at m n h hh))
    rw [hH2.1] at hf
    have hs : sumV (⟨(txtV m).toArray⟩ : ByteArray).data.toList = 2981146554 := txt_sum hgo hn hh hH ho
    rw [e, hs, show finV (bkM m n) hdS = some (bkS m n h).2 from hf]
    unfold whV
    simp only
    rw [decide_eq_true hH2.2]; rfl
end
end Go.Proofs.YtgmmhlpdkoiheaaDoor
