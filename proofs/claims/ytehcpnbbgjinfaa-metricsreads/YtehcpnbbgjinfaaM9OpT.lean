/-
  Tables that came in: they lie one behind the other.
-/
import Derived.Test.YtehcpnbbgjinfaaM9Sam
import Derived.SliceStrings
import Derived.SizedLaws
namespace Go.Proofs.Ytehcpnbbgjinfaa
open Go.ChangeShapes Go.WideShapes Go.RowKit Go.Deep
set_option linter.unusedVariables false

theorem cells_str : Try.prog.cellsOf 9 = 1 := by kernel_rfl
theorem cells_tab : Try.prog.cellsOf 46 = 2 := by kernel_rfl
theorem bytes_tab : Try.prog.bytesOf 46 = 32 := by kernel_rfl
theorem len2 {α : Type} {l : List α} (h : l.length = 2) : ∃ a b, l = [a, b] := by
  match l, h with
  | [a, b], _ => exact ⟨a, b, rfl⟩
structure TIn (w : World) (a : Option Addr) (n : Nat) (l : List Tab) : Prop where
  len : l.length = n
  most : n ≤ 4398046511104
  lst : TLst w a l
  size : ∀ x ∈ l, x.1.size ≤ 140737488351232 ∧ x.2.size ≤ 140737488351232
section
variable {H : Type} {enc : TypeId × Value → H} {W : World} {base : Nat} {sp : Nat → Bool} {held : Bool}
theorem tab_cell {n : Nat} {cs : List Value} {y : DataW H × List MemPlace} (h : DataW.trod enc Try.prog W base sp held n 46 cs = some y) (hw : ∀ k ∈ y.1.weights Try.prog 46, k ≤ reachBytes) :
    ∃ s t : ByteArray, cs = [.string s, .string t] ∧ s.size ≤ 140737488351232 ∧ t.size ≤ 140737488351232 := by
  obtain ⟨xs, m, hm, rfl, hlen, hxl, hf⟩ := DataW.trod_struct Try.underlying46 h
  rw [cells_tab] at hlen
  obtain ⟨a0, a1, rfl⟩ := len2 hlen
  obtain ⟨x0, x1, rfl⟩ := len2 (show xs.length = 2 from hxl)
  have g0 := hf 0 _ rfl
  have g1 := hf 1 _ rfl
  simp [cells_str] at g0 g1
  obtain ⟨s, e0, f0, _⟩ := DataW.trod_string Try.underlying9 g0
  obtain ⟨t, e1, f1, _⟩ := DataW.trod_string Try.underlying9 g1
  simp at e0 e1
  subst e0 e1
  subst f0 f1
  have hw' : ∀ k ∈ [s.data.toList.length, t.data.toList.length], k ≤ reachBytes := fun k hk => hw k (by
    simp only [List.map_cons, List.map_nil, DataW.weights, Try.underlying46, DataW.weightsEach, List.mem_append]
    simp at hk ⊢
    exact hk)
  have h1 := hw' s.data.toList.length (by simp)
  have h2 := hw' t.data.toList.length (by simp)
  unfold reachBytes at h1 h2
  rw [← Lib.size_eq] at h1 h2
  exact ⟨s, t, rfl, by omega, by omega⟩
theorem tab_rows (n : Nat) : ∀ (es : List (DataW H × List MemPlace)) (b off : Nat), (∀ i, i < es.length → (W.cells? base ⟨b, off + i * 2, none⟩ 2).bind (DataW.trod enc Try.prog W base sp held n 46) = es[i]?) →
    (∀ k ∈ DataW.weightsAll Try.prog 46 (es.map (·.1)), k ≤ reachBytes) → ∃ l : List Tab, l.length = es.length ∧ (∀ x ∈ l, x.1.size ≤ 140737488351232 ∧ x.2.size ≤ 140737488351232) ∧
      ∀ i x, l[i]? = some x → W.cell? ⟨b, off + i * 2, none⟩ = some (.string x.1) ∧ W.cell? ⟨b, off + i * 2 + 1, none⟩ = some (.string x.2)
  | [], _, _, _, _ => ⟨[], rfl, by simp, by simp⟩
  | e :: es, b, off, h, hw => by
    have h0 := h 0 (by simp)
    simp only [Nat.zero_mul, Nat.add_zero, List.getElem?_cons_zero] at h0
    obtain ⟨cs, hc, ht⟩ := Option.bind_eq_some_iff.1 h0
    simp only [List.map_cons, DataW.weightsAll] at hw
    obtain ⟨s, t, rfl, h1, h2⟩ := tab_cell ht (fun k hk => hw k (List.mem_append_left _ hk))
    obtain ⟨l, hl, hs, hR⟩ := tab_rows n es b (off + 2) (fun i hi => by
      have := h (i + 1) (by simp; omega)
      rw [show off + (i + 1) * 2 = off + 2 + i * 2 by omega] at this
      simpa using this) (fun k hk => hw k (List.mem_append_right _ hk))
    obtain ⟨_, _, hcell⟩ := World.cells?_some hc
    have g : ∀ j, j < 2 → W.cell? ⟨b, off + j, none⟩ = [Value.string s, Value.string t][j]? := fun j hj => by rw [← Go.WideShapes.add_plain]; exact hcell j hj
    refine ⟨(s, t) :: l, by simp [hl], fun x hx => ?_, fun i x hx => ?_⟩
    · rcases List.mem_cons.1 hx with rfl | hx
      · exact ⟨h1, h2⟩
      · exact hs x hx
    · cases i with
      | zero => simp at hx; subst hx; exact ⟨by simpa using g 0 (by omega), by simpa using g 1 (by omega)⟩
      | succ i =>
        have := hR i x (by simpa using hx)
        rw [show off + (i + 1) * 2 = off + 2 + i * 2 by omega]
        exact this
variable {r : Reach} {b0 : Nat} {v : Value} {d : DataW H} {pl : List MemPlace}
theorem open_tabs (hv : Value.okWide Try.prog W r b0 22 v) (h : DataW.Trod enc Try.prog W base sp held 22 v d pl) (hw : ∀ k ∈ d.weights Try.prog 22, k ≤ reachBytes) :
    ∃ a n c l, v = .slice a n c ∧ TIn W a n l := by
  obtain ⟨a, n, c, rfl⟩ := okWide_slice Try.underlying22 hv
  obtain ⟨fuel, hf⟩ := h
  rcases DataW.trod_slice Try.underlying22 hf with ⟨hcs, _⟩ | ⟨a', len, cap, elems, rest, n', hn', hcs, hx, _, hl, hmx, hel, hei, _, _⟩
  · simp [Value.cells] at hcs
    obtain ⟨rfl, rfl, rfl⟩ := hcs
    exact ⟨none, 0, 0, [], rfl, rfl, by omega, Or.inl rfl, by simp⟩
  · simp [Value.cells] at hcs
    obtain ⟨rfl, rfl, rfl⟩ := hcs
    have hx := congrArg Prod.fst hx
    simp only at hx
    have hwt := hw ((elems.length + rest.length) * 32) (by rw [hx]; simp only [DataW.weights, Try.underlying22, bytes_tab, List.length_map]; exact List.mem_cons_self)
    have hwa : ∀ k ∈ DataW.weightsAll Try.prog 46 (elems.map (·.1)), k ≤ reachBytes := fun k hk => hw k (by rw [hx]; simp only [DataW.weights, Try.underlying22]; exact List.mem_cons_of_mem _ (List.mem_append_left _ hk))
    simp only [reachBytes] at hwt
    rcases Nat.eq_zero_or_pos n with h0 | h0
    · subst h0
      exact ⟨some a', 0, c, [], rfl, rfl, by omega, Or.inl rfl, by simp⟩
    · obtain ⟨b, off, spot⟩ := a'
      have h00 := hei 0 h0
      rw [List.getElem?_eq_getElem (by omega), cells_tab] at h00
      obtain ⟨cs0, hc0, _⟩ := Option.bind_eq_some_iff.1 h00
      obtain ⟨_, hcl, hcell⟩ := World.cells?_some hc0
      obtain ⟨c0, c1, rfl⟩ := len2 hcl
      have hc00 := hcell 0 (by omega)
      simp only [List.getElem?_cons_zero] at hc00
      have hspot : spot = none := by simpa [Addr.add] using World.cell?_spot hc00
      subst hspot
      have hb : b < W.heap.size := by
        have := World.cells?_block hc0 (by omega)
        simpa [Addr.add] using this
      obtain ⟨l, hl1, hl2, hl3⟩ := tab_rows n' elems b off (fun i hi => by
        have := hei i (by omega)
        rw [cells_tab, Go.WideShapes.add_plain] at this
        exact this) hwa
      exact ⟨some ⟨b, off, none⟩, n, c, l, rfl, by omega, by omega, Or.inr ⟨b, off, rfl, hb, hl3⟩, hl2⟩
theorem wts0 {P : Program} {t : TypeId} {ts : List TypeId} {d : DataW H} {r : List (DataW H)} (h : (DataW.weightsEach P (t :: ts) (d :: r)).all (· ≤ reachBytes) = true) : ∀ k ∈ d.weights P t, k ≤ reachBytes := fun k hk => by
  simpa using List.all_eq_true.1 h k (by simp only [DataW.weightsEach]; exact List.mem_append_left _ hk)
end
/- the law's long -/
def LgR (l : List Tab) (n : Nat) (w : World) (e : Ending) (w' : World) : Prop := ∃ b : Bool, e = .returned (.bool b) ∧ (b = false → n ≤ 40000 ∧ ∀ x ∈ l, x.2.size ≤ 40000) ∧ ∃ m, w' = w.drewN m
set_option maxHeartbeats 1000000 in
theorem long_any (a : Option Addr) (l : List Tab) (n c : Nat) (w : World) (hT : TIn w a n l) :
    Calls Try.prog 8 #[.slice a n c] w fun e w' => LgR l n w e w' := by
  have HT := hide hT
  have h5 : (n : Int) ≤ 4398046511104 := by have := hT.most; omega
  clear hT
  go_enter Try.func8, Try.ntmps8
  go_wp2_with fail
  go_loopw [3, 4] (fun vn vi wr => ∃ (k m : Nat) (N : Int), vi = .int .i64 k ∧ vn = .int .i64 N ∧ wr = w.drewN m ∧ Hid (k ≤ n ∧ (k : Int) ≤ N ∧ N ≤ 500000000000000 ∧ ∀ i x, i < k → l[i]? = some x → (x.2.size : Int) ≤ N)) (fun _ vi _ => n - (intOf vi).toNat)
  case atStart => exact ⟨0, 0, 0, rfl, rfl, rfl, hide ⟨by omega, by omega, by omega, fun i x hi => by omega⟩⟩
  case round =>
    obtain ⟨k, m, N, rfl, rfl, rfl, HV⟩ := hrel
    obtain ⟨hk, hN, hN2, hall⟩ := HV.out
    have hk0 : (0 : Int) ≤ (k : Int) := by omega
    have HALL := hide hall
    clear HV hall
    have FIN : Hid (∀ b : Bool, b = decide (40000 < N) → ¬ k < n ∨ 40000 < N → (b = false → n ≤ 40000 ∧ ∀ x ∈ l, x.2.size ≤ 40000)) := hide fun b hb hc hf => by
      rw [hb] at hf
      simp at hf
      have hkn : k = n := by omega
      refine ⟨by omega, fun x hx => ?_⟩
      obtain ⟨i, hi, rfl⟩ := List.getElem_of_mem hx
      have hl := HT.out.len
      have := HALL.out i l[i] (by omega) (List.getElem?_eq_getElem hi)
      omega
    by_cases hlt : k < n
    · have hlt' : (k : Int) < (n : Int) := by omega
      by_cases hM : N ≤ 40000
      · have hl := HT.out.len
        obtain ⟨x, hx⟩ : ∃ x, l[k]? = some x := ⟨_, List.getElem?_eq_getElem (by omega)⟩
        rcases HT.out.lst with hz | ⟨p, po, rfl, hp, hcp⟩
        · rw [hz] at hl; simp at hl; omega
        obtain ⟨c0, c1⟩ := hcp k x hx
        obtain ⟨z1, z2⟩ := HT.out.size x (List.mem_of_getElem? hx)
        obtain ⟨x1, x2⟩ := x
        simp only at z1 z2 c0 c1
        have z1' : (x1.size : Int) ≤ 140737488351232 := by omega
        have z2' : (x2.size : Int) ≤ 140737488351232 := by omega
        have REL : Hid (∀ V : Int, V = N + (1 + x2.size + x1.size) → (k + 1 ≤ n ∧ ((k + 1 : Nat) : Int) ≤ V ∧ V ≤ 500000000000000 ∧ ∀ i x, i < k + 1 → l[i]? = some x → (x.2.size : Int) ≤ V)) := hide fun V hV => ⟨by omega, by omega, by omega, fun i y hi hy => by
          rcases Nat.lt_or_ge i k with h' | h'
          · have := HALL.out i y h' hy; omega
          · obtain rfl : i = k := by omega
            rw [hx] at hy
            injection hy with hy
            subst hy
            simp only
            omega⟩
        clear hcp hl hx HALL FIN z1 z2
        go_wp2_with fail
        go_quiet (fail)
        go_wp2
        go_roundw
        case rel => exact ⟨k + 1, _, _, by go_num, rfl, rfl, hide (REL.out _ rfl)⟩
        case measure => simp [intOf]; omega
      · have hM' : ¬ N ≤ 40000 := hM
        have hM2 : 40000 < N := by omega
        go_wp2_with fail
        go_ret
        exact ⟨_, rfl, FIN.out _ (by simp; omega) (Or.inr hM2), m, rfl⟩
    · have hlt' : ¬ (k : Int) < (n : Int) := by omega
      have FN := hide (fun b hb => FIN.out b hb (Or.inl hlt))
      clear FIN
      go_wp2_with fail
      go_ret
      exact ⟨_, rfl, FN.out _ (by simp), m, rfl⟩
end Go.Proofs.Ytehcpnbbgjinfaa
