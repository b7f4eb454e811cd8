/-
  What the reference's one, scaled and zeros answer.
-/
import Derived.Test.YtcbmjoocehhhnaaDoorG10Wk
namespace Go.Proofs.YtcbmjoocehhhnaaDoor
open Go.RowKit Go.Deep
set_option linter.unusedVariables false
set_option linter.unusedSimpArgs false

theorem rone_any (f o n : Nat) (w : World) (hf : f ≤ 65535) (ho : o ≤ 65535) (hn : n ≤ 65535) :
    Calls Tryd.prog 44 #[.int .i64 (f : Int), .int .i64 (o : Int), .int .i64 (n : Int)] w fun e w' => e = .returned (.int .i64 ((wid f o n : Nat) : Int)) ∧ w' = w := by
  cases h1 : hb f o
  · cases h2 : hb f n
    · have hv : wid f o n = 2 := by unfold wid; simp [h1, h2]
      rw [hv]
      have e1 := bit_f hf ho h1
      have e2 := bit_f hf hn h2
      clear hv h1 h2 hf ho hn
      go_enter Tryd.func44, Tryd.ntmps44
      go_wp2_with fail
      go_ret
      exact ⟨rfl, rfl⟩
    · have hv : wid f o n = 0 := by unfold wid; simp [h1, h2]
      rw [hv]
      have e1 := bit_f hf ho h1
      obtain ⟨x, e2, e3, e4⟩ := bit_t hf hn h2
      clear hv h1 h2 hf ho hn
      go_enter Tryd.func44, Tryd.ntmps44
      go_wp2_with fail
      go_ret
      exact ⟨rfl, rfl⟩
  · have hv : wid f o n = 1 := by unfold wid; simp [h1]
    rw [hv]
    obtain ⟨x, e2, e3, e4⟩ := bit_t hf ho h1
    clear hv h1 hf ho hn
    go_enter Tryd.func44, Tryd.ntmps44
    go_wp2_with fail
    go_ret
    exact ⟨rfl, rfl⟩
def scV (f : Nat) : Int := match mtx f with | some k => (k : Int) | none => -1
theorem rscaled_any (f : Nat) (w : World) (hf : f ≤ 65535) : Calls Tryd.prog 42 #[.int .i64 (f : Int)] w fun e w' => e = .returned (.int .i64 (scV f)) ∧ w' = w := by
  have hm : scV f = match mtxB (hb f 8) (hb f 64) (hb f 128) with | some k => (k : Int) | none => -1 := by unfold scV; rw [mtx_bits]
  have HM := hide hm
  clear hm
  by_cases qttt : hb f 8 = true ∧ hb f 64 = true ∧ hb f 128 = true
  · obtain ⟨h1, h2, h3⟩ := qttt
    obtain ⟨x1, e1, d1, c1⟩ := bit_t (f := f) (m := 8) hf (by omega) h1
    have e1 : bits .and .i64 (f : Int) 8 = x1 := e1
    obtain ⟨x2, e2, d2, c2⟩ := bit_t (f := f) (m := 64) hf (by omega) h2
    have e2 : bits .and .i64 (f : Int) 64 = x2 := e2
    obtain ⟨x3, e3, d3, c3⟩ := bit_t (f := f) (m := 128) hf (by omega) h3
    have e3 : bits .and .i64 (f : Int) 128 = x3 := e3
    rw [show scV f = -1 by rw [HM.out, h1, h2, h3]; rfl]
    clear h1 h2 h3 hf HM
    go_enter Tryd.func42, Tryd.ntmps42
    go_wp2_with fail
    go_ret
    exact ⟨rfl, rfl⟩
  by_cases qttf : hb f 8 = true ∧ hb f 64 = true ∧ hb f 128 = false
  · obtain ⟨h1, h2, h3⟩ := qttf
    obtain ⟨x1, e1, d1, c1⟩ := bit_t (f := f) (m := 8) hf (by omega) h1
    have e1 : bits .and .i64 (f : Int) 8 = x1 := e1
    obtain ⟨x2, e2, d2, c2⟩ := bit_t (f := f) (m := 64) hf (by omega) h2
    have e2 : bits .and .i64 (f : Int) 64 = x2 := e2
    have e3 : bits .and .i64 (f : Int) 128 = 0 := bit_f (m := 128) hf (by omega) h3
    rw [show scV f = -1 by rw [HM.out, h1, h2, h3]; rfl]
    clear h1 h2 h3 hf HM
    go_enter Tryd.func42, Tryd.ntmps42
    go_wp2_with fail
    go_ret
    exact ⟨rfl, rfl⟩
  by_cases qtft : hb f 8 = true ∧ hb f 64 = false ∧ hb f 128 = true
  · obtain ⟨h1, h2, h3⟩ := qtft
    obtain ⟨x1, e1, d1, c1⟩ := bit_t (f := f) (m := 8) hf (by omega) h1
    have e1 : bits .and .i64 (f : Int) 8 = x1 := e1
    have e2 : bits .and .i64 (f : Int) 64 = 0 := bit_f (m := 64) hf (by omega) h2
    obtain ⟨x3, e3, d3, c3⟩ := bit_t (f := f) (m := 128) hf (by omega) h3
    have e3 : bits .and .i64 (f : Int) 128 = x3 := e3
    rw [show scV f = -1 by rw [HM.out, h1, h2, h3]; rfl]
    clear h1 h2 h3 hf HM
    go_enter Tryd.func42, Tryd.ntmps42
    go_wp2_with fail
    go_ret
    exact ⟨rfl, rfl⟩
  by_cases qtff : hb f 8 = true ∧ hb f 64 = false ∧ hb f 128 = false
  · obtain ⟨h1, h2, h3⟩ := qtff
    obtain ⟨x1, e1, d1, c1⟩ := bit_t (f := f) (m := 8) hf (by omega) h1
    have e1 : bits .and .i64 (f : Int) 8 = x1 := e1
    have e2 : bits .and .i64 (f : Int) 64 = 0 := bit_f (m := 64) hf (by omega) h2
    have e3 : bits .and .i64 (f : Int) 128 = 0 := bit_f (m := 128) hf (by omega) h3
    rw [show scV f = 2 by rw [HM.out, h1, h2, h3]; rfl]
    clear h1 h2 h3 hf HM
    go_enter Tryd.func42, Tryd.ntmps42
    go_wp2_with fail
    go_ret
    exact ⟨rfl, rfl⟩
  by_cases qftt : hb f 8 = false ∧ hb f 64 = true ∧ hb f 128 = true
  · obtain ⟨h1, h2, h3⟩ := qftt
    have e1 : bits .and .i64 (f : Int) 8 = 0 := bit_f (m := 8) hf (by omega) h1
    obtain ⟨x2, e2, d2, c2⟩ := bit_t (f := f) (m := 64) hf (by omega) h2
    have e2 : bits .and .i64 (f : Int) 64 = x2 := e2
    obtain ⟨x3, e3, d3, c3⟩ := bit_t (f := f) (m := 128) hf (by omega) h3
    have e3 : bits .and .i64 (f : Int) 128 = x3 := e3
    rw [show scV f = -1 by rw [HM.out, h1, h2, h3]; rfl]
    clear h1 h2 h3 hf HM
    go_enter Tryd.func42, Tryd.ntmps42
    go_wp2_with fail
    go_ret
    exact ⟨rfl, rfl⟩
  by_cases qftf : hb f 8 = false ∧ hb f 64 = true ∧ hb f 128 = false
  · obtain ⟨h1, h2, h3⟩ := qftf
    have e1 : bits .and .i64 (f : Int) 8 = 0 := bit_f (m := 8) hf (by omega) h1
    obtain ⟨x2, e2, d2, c2⟩ := bit_t (f := f) (m := 64) hf (by omega) h2
    have e2 : bits .and .i64 (f : Int) 64 = x2 := e2
    have e3 : bits .and .i64 (f : Int) 128 = 0 := bit_f (m := 128) hf (by omega) h3
    rw [show scV f = 4 by rw [HM.out, h1, h2, h3]; rfl]
    clear h1 h2 h3 hf HM
    go_enter Tryd.func42, Tryd.ntmps42
    go_wp2_with fail
    go_ret
    exact ⟨rfl, rfl⟩
  by_cases qfft : hb f 8 = false ∧ hb f 64 = false ∧ hb f 128 = true
  · obtain ⟨h1, h2, h3⟩ := qfft
    have e1 : bits .and .i64 (f : Int) 8 = 0 := bit_f (m := 8) hf (by omega) h1
    have e2 : bits .and .i64 (f : Int) 64 = 0 := bit_f (m := 64) hf (by omega) h2
    obtain ⟨x3, e3, d3, c3⟩ := bit_t (f := f) (m := 128) hf (by omega) h3
    have e3 : bits .and .i64 (f : Int) 128 = x3 := e3
    rw [show scV f = 8 by rw [HM.out, h1, h2, h3]; rfl]
    clear h1 h2 h3 hf HM
    go_enter Tryd.func42, Tryd.ntmps42
    go_wp2_with fail
    go_ret
    exact ⟨rfl, rfl⟩
  by_cases qfff : hb f 8 = false ∧ hb f 64 = false ∧ hb f 128 = false
  · obtain ⟨h1, h2, h3⟩ := qfff
    have e1 : bits .and .i64 (f : Int) 8 = 0 := bit_f (m := 8) hf (by omega) h1
    have e2 : bits .and .i64 (f : Int) 64 = 0 := bit_f (m := 64) hf (by omega) h2
    have e3 : bits .and .i64 (f : Int) 128 = 0 := bit_f (m := 128) hf (by omega) h3
    rw [show scV f = 0 by rw [HM.out, h1, h2, h3]; rfl]
    clear h1 h2 h3 hf HM
    go_enter Tryd.func42, Tryd.ntmps42
    go_wp2_with fail
    go_ret
    exact ⟨rfl, rfl⟩
  exfalso
  cases h1 : hb f 8 <;> cases h2 : hb f 64 <;> cases h3 : hb f 128 <;> simp_all
theorem all_at (l : List UInt8) (a : Nat) : ((l.drop a).all (fun c => c.toNat == 0)) = true ↔ ∀ i, a ≤ i → i < l.length → bt l i = 0 := by
  rw [List.all_eq_true]
  constructor
  · intro h i h1 h2
    have hm : l.getD i 0 ∈ l.drop a := by
      rw [List.getD_eq_getElem?_getD, List.getElem?_eq_getElem h2]
      show l[i] ∈ l.drop a
      rw [List.mem_drop_iff_getElem]
      exact ⟨i - a, by omega, by congr 1; omega⟩
    simpa [bt] using h _ hm
  · intro h c hc
    rw [List.mem_drop_iff_getElem] at hc
    obtain ⟨i, hi, rfl⟩ := hc
    have := h (a + i) (by omega) (by omega)
    unfold bt at this
    rw [List.getD_eq_getElem?_getD, List.getElem?_eq_getElem (by omega)] at this
    simpa using this
theorem rzeros_any (s : ByteArray) (a : Nat) (z : Int) (w : World) (hz : z = (a : Int)) (hs : s.size ≤ 1000000) (ha : a ≤ 10000000) : Calls Tryd.prog 43 #[.string s, .int .i64 z] w fun e w' => e = .returned (.bool (tailB s.data.toList a)) ∧ w' = w := by
  subst hz
  have hs' : (s.size : Int) ≤ 1000000 := by omega
  have ha' : (a : Int) ≤ 10000000 := by omega
  have ha0 : (0 : Int) ≤ (a : Int) := by omega
  by_cases h : a ≤ s.size
  case neg =>
    have hv : tailB s.data.toList a = false := by unfold tailB; rw [decide_eq_false (by rw [← Lib.size_eq]; exact h)]; rfl
    rw [hv]
    have hlt : (s.size : Int) < (a : Int) := by omega
    clear hv h
    go_enter Tryd.func43, Tryd.ntmps43
    go_wp2_with fail
    go_ret
    exact ⟨rfl, rfl⟩
  have hv : tailB s.data.toList a = (s.data.toList.drop a).all (fun c => c.toNat == 0) := by unfold tailB; rw [decide_eq_true (by rw [← Lib.size_eq]; exact h)]; rfl
  have HV := hide hv
  have hle : ¬ (s.size : Int) < (a : Int) := by omega
  clear hv
  go_enter Tryd.func43, Tryd.ntmps43
  go_wp2_with fail
  go_loop [5] (fun v => ∃ k : Nat, v = .int .i64 (k : Int) ∧ Hid (a ≤ k ∧ k ≤ s.size ∧ ∀ i, a ≤ i → i < k → bt s.data.toList i = 0)) (fun v => s.size - (intOf v).toNat)
  case atStart => exact ⟨a, rfl, hide ⟨Nat.le_refl _, h, fun i h1 h2 => by omega⟩⟩
  case round =>
    obtain ⟨k, rfl, HK⟩ := hrel
    obtain ⟨k0, k1, k2⟩ := HK.out
    have hk0 : (0 : Int) ≤ (k : Int) := by omega
    have K2 := hide k2
    clear HK k2
    by_cases hk : k < s.size
    · have hk' : (k : Int) < (s.size : Int) := by omega
      have hbt := bt_at s k hk
      by_cases h0 : s[k].toNat = 0
      · have h0' : ((s[k].toNat : Int) == 0) = true := by rw [beq_iff_eq]; omega
        have K3 : Hid (∀ i, a ≤ i → i < k + 1 → bt s.data.toList i = 0) := hide fun i h1 h2 => by
          by_cases e : i = k
          · subst e; omega
          · exact K2.out i h1 (by omega)
        clear hbt h0
        go_wp2_with fail
        go_round
        case rel => exact ⟨k + 1, by go_num, hide ⟨by omega, by omega, K3.out⟩⟩
        case measure => simp [intOf]; omega
      · have h0' : ((s[k].toNat : Int) == 0) = false := by rw [beq_eq_false_iff_ne]; omega
        have E := hide (show tailB s.data.toList a = false by
          rw [HV.out]
          cases e : (s.data.toList.drop a).all (fun c => c.toNat == 0) with
          | false => rfl
          | true => exact absurd ((all_at _ _).1 e k k0 (by rw [← Lib.size_eq]; exact hk)) (by omega))
        clear hbt h0
        go_wp2_with fail
        go_ret
        exact ⟨by rw [E.out]; rfl, rfl⟩
    · have hk' : ¬ (k : Int) < (s.size : Int) := by omega
      have E := hide (show tailB s.data.toList a = true by
        rw [HV.out, all_at]
        intro i h1 h2
        rw [← Lib.size_eq] at h2
        exact K2.out i h1 (by omega))
      go_wp2_with fail
      go_ret
      exact ⟨by rw [E.out]; rfl, rfl⟩
abbrev zs3 : Array Value := #[.int .i64 0, .slice none 0 0, .slice none 0 0]
theorem Blk.three {w : World} {b : Nat} {u v x : Value} {t : TypeId} (h : Blk w b #[u, v, x] t) : (w.cell? ⟨b, 0, none⟩ = some u ∧ w.cell? ⟨b, 1, none⟩ = some v ∧ w.cell? ⟨b, 2, none⟩ = some x) ∧ w.frozen? ⟨b, 0, none⟩ = false ∧ w.frozen? ⟨b, 1, none⟩ = false ∧ w.frozen? ⟨b, 2, none⟩ = false :=
  ⟨⟨h.cell 0, h.cell 1, h.cell 2⟩, h.frozen 0, h.frozen 1, h.frozen 2⟩
theorem st3 {V : World} {B : Nat} {u0 u1 u2 : Value} {t : TypeId} (hk : Blk V B #[u0, u1, u2] t) (x y z : Value) : Blk (((V.setCell ⟨B, 0, none⟩ x).setCell ⟨B, 1, none⟩ y).setCell ⟨B, 2, none⟩ z) B #[x, y, z] t := by
  have := ((hk.set 0 x).set 1 y).set 2 z
  simpa using this
theorem st3_below {w V : World} {B : Nat} (h : Below w.heap.size w V) (hB : w.heap.size ≤ B) (x y z : Value) : Below w.heap.size w (((V.setCell ⟨B, 0, none⟩ x).setCell ⟨B, 1, none⟩ y).setCell ⟨B, 2, none⟩ z) :=
  ((h.setCell (p := ⟨B, 0, none⟩) hB x).setCell (p := ⟨B, 1, none⟩) hB y).setCell (p := ⟨B, 2, none⟩) hB z
theorem below_same {w a b : World} (h : Below w.heap.size w a) (e0 : b.os = a.os) (e1 : b.tape = a.tape) (e2 : b.output = a.output) (e3 : b.heap = a.heap) : Below w.heap.size w b :=
  ⟨e0.trans h.os, e1.trans h.tape, e2.trans h.output, e3 ▸ h.size, fun k hk => by rw [e3]; exact h.block k hk⟩
end Go.Proofs.YtcbmjoocehhhnaaDoor
