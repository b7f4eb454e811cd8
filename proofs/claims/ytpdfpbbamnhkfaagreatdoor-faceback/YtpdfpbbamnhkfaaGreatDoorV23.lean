/-
  Joined: M9Hx.
-/
import Derived.Test.YtpdfpbbamnhkfaaGreatDoorV22
namespace Go.Proofs.YtpdfpbbamnhkfaaGreatDoor
open Go.RowKit Go.Deep
set_option linter.unusedVariables false
def advF (s : ByteArray) (h i : Nat) : Int := if i < h then ((n2 s.data.toList (4 * i) : Nat) : Int) else ((n2 s.data.toList (4 * h - 4) : Nat) : Int)
def beaF (s : ByteArray) (h i : Nat) : Int := if i < h then s2 s.data.toList (4 * i + 2) else s2 s.data.toList (4 * h + 2 * (i - h))
def arr (f : Nat → Int) (n k : Nat) : Array Value := ((List.range n).map fun i => Value.int .i64 (if i < k then f i else 0)).toArray
theorem arr_size (f : Nat → Int) (n k : Nat) : (arr f n k).size = n := by simp [arr]
theorem arr_at (f : Nat → Int) (n k j : Nat) (h : j < n) : (arr f n k)[j]? = some (.int .i64 (if j < k then f j else 0)) := by
  simp [arr, h]
theorem arr_set (f : Nat → Int) (n k : Nat) (h : k < n) : (arr f n k).setIfInBounds k (.int .i64 (f k)) = arr f n (k + 1) := by
  apply Array.ext_getElem?
  intro j
  rw [Array.getElem?_setIfInBounds]
  by_cases hj : j < n
  · rw [arr_at _ _ _ _ hj, arr_at _ _ _ _ hj]
    by_cases e : k = j
    · subst e; simp [arr_size, hj]
    · rw [if_neg e]
      by_cases h1 : j < k
      · rw [if_pos h1, if_pos (by omega)]
      · rw [if_neg h1, if_neg (by omega)]
  · rw [if_neg (by rintro rfl; exact hj h)]
    rw [Array.getElem?_eq_none (by rw [arr_size]; omega), Array.getElem?_eq_none (by rw [arr_size]; omega)]
theorem arr_zero (f : Nat → Int) (n : Nat) : arr f n 0 = Array.replicate n (.int .i64 0) := by
  apply Array.ext_getElem?
  intro j
  by_cases hj : j < n
  · rw [arr_at _ _ _ _ hj]; simp [hj]
  · rw [Array.getElem?_eq_none (by rw [arr_size]; omega), Array.getElem?_eq_none (by simp; omega)]
theorem make_ints (n : Nat) (hn : n ≤ 100000) (x : World) : (Instr.makeSlice 23 (.int .i64 (n : Int)) (.int .i64 (n : Int))).run Tryz.prog x = .ok (.slice (some ⟨x.heap.size, 0, none⟩) n n) (x.alloc (.cells (Array.replicate n (.int .i64 0)) 3)) := by
  obtain ⟨i0, hi, hz0, hz1, hz2⟩ := info_parts5 info_int
  have h := run_make (P := Tryz.prog) x 23 3 i0 (.int .i64 0) Tryz.underlying23 hi hz0 .i64 .i64 n n (by omega) (Int.le_refl _) (by rw [hz2]; omega) (by omega)
  rw [hz1] at h
  simp only [Int.toNat_natCast, Nat.mul_one] at h
  have e : madeCells (Value.int .i64 0).cells n = Array.replicate n (.int .i64 0) := by
    apply Array.ext (by simp [madeCells])
    intro j h1 h2
    simp [madeCells, Value.cells, Nat.mod_one]
  rw [e] at h
  exact h
theorem But.far {b p : Nat} {w w' : World} (h : But b w w') (hp : w.heap.size ≤ p) (o : Nat) (v : Value) : But b w (w'.setCell ⟨p, o, none⟩ v) :=
  ⟨h.os, h.tape, h.output, by simp [World.setCell]; exact h.size, fun k hk hn => by rw [Below.heap_setCell _ _ _ _ (show k ≠ p by omega)]; exact h.block k hk hn⟩
theorem But.drewR {b : Nat} {w w' : World} (h : But b w w') (n : Nat) : But b w (w'.drewN n) := ⟨h.os, h.tape, h.output, h.size, h.block⟩
structure Two (s : ByteArray) (w : World) (b p q n h k : Nat) (R : World → Prop) (wr : World) : Prop where
  a : Blk wr p (arr (advF s h) n k) 3
  c : Blk wr q (arr (beaF s h) n k) 3
  r : R wr
  o : But b w wr
theorem Two.step {s : ByteArray} {w : World} {b p q n h k : Nat} {cs : Array Value} {t : TypeId} {wr : World} (T : Two s w b p q n h k (fun x => Blk x b cs t) wr) (hk : k < n) (hpq : p ≠ q) (hp : w.heap.size ≤ p) (hq : w.heap.size ≤ q) (hb : b < w.heap.size) (m : Nat) :
    Two s w b p q n h (k + 1) (fun x => Blk x b cs t) (((wr.drewN m).setCell ⟨p, k, none⟩ (.int .i64 (advF s h k))).setCell ⟨q, k, none⟩ (.int .i64 (beaF s h k))) := by
  refine ⟨?_, ?_, ?_, ((T.o.drewR m).far hp k _).far hq k _⟩
  · have := (Blk.set (T.a.drewN m) k (.int .i64 (advF s h k)))
    rw [arr_set _ _ _ hk] at this
    exact Blk.other this hpq k _
  · have := Blk.set (Blk.other (T.c.drewN m) (Ne.symm hpq) k (.int .i64 (advF s h k))) k (.int .i64 (beaF s h k))
    rw [arr_set _ _ _ hk] at this
    exact this
  · exact Blk.other (Blk.other (Blk.drewN T.r m) (by omega) k _) (by omega) k _
theorem Two.cells {s : ByteArray} {w : World} {b p q n h k : Nat} {R : World → Prop} {wr : World} (T : Two s w b p q n h k R wr) (hk : k < n) :
    wr.cell? ⟨p, k, none⟩ = some (.int .i64 0) ∧ wr.frozen? ⟨p, k, none⟩ = false ∧ wr.cell? ⟨q, k, none⟩ = some (.int .i64 0) ∧ wr.frozen? ⟨q, k, none⟩ = false ∧ p < wr.heap.size ∧ q < wr.heap.size := by
  refine ⟨?_, T.a.frozen k, ?_, T.c.frozen k, T.a.lt, T.c.lt⟩
  · rw [T.a.cell k, arr_at _ _ _ _ hk]; simp
  · rw [T.c.cell k, arr_at _ _ _ _ hk]; simp
set_option maxHeartbeats 8000000 in
theorem hx_short (s : ByteArray) (b n h : Nat) (w : World) (up sc de ga b0 b1 b2 b3 : Int) (lg : Bool) (va vb : Value) (hR : RB w b n h up sc de ga b0 b1 b2 b3 lg va vb) (h1 : 1 ≤ h) (h2 : h ≤ n) (h3 : n ≤ 4096) (hm : s.size ≤ 1073741824) (hs : s.size < 4 * h + 2 * (n - h)) :
    Calls Tryz.prog 200 #[.pointer (some ⟨b, 0, none⟩), .string s] w fun e w' => e = .returned (.bool false) ∧ ∃ m, w' = w.drewN m := by
  have g0 := hR.cell 0
  have g1 := hR.cell 1
  have hlt := hR.lt
  simp [rcs] at g0 g1
  have c1 : (1 : Int) ≤ (h : Int) := by omega
  have c2 : (h : Int) ≤ (n : Int) := by omega
  have c3 : (n : Int) ≤ 4096 := by omega
  have c4 : (s.size : Int) < 4 * (h : Int) + 2 * ((n : Int) - (h : Int)) := by omega
  have c5 : (s.size : Int) ≤ 1073741824 := by omega
  clear hR h1 h2 h3 hm hs
  go_enter Tryz.func200, Tryz.ntmps200
  go_wp2_with fail
  go_quiet (fail)
  go_wp2_with fail
  go_ret
  exact ⟨rfl, _, rfl⟩
def HxR (s : ByteArray) (b n h : Nat) (w : World) (up sc de ga b0 b1 b2 b3 : Int) (lg : Bool) (w' : World) : Prop :=
  ∃ p q, w.heap.size ≤ p ∧ w.heap.size ≤ q ∧ p ≠ q ∧ Blk w' p (arr (advF s h) n n) 3 ∧ Blk w' q (arr (beaF s h) n n) 3 ∧
    RB w' b n h up sc de ga b0 b1 b2 b3 lg (.slice (some ⟨p, 0, none⟩) n n) (.slice (some ⟨q, 0, none⟩) n n) ∧ But b w w'
set_option maxHeartbeats 8000000 in
theorem hx_any (s : ByteArray) (b n h : Nat) (w : World) (up sc de ga b0 b1 b2 b3 : Int) (lg : Bool) (va vb : Value) (hR : RB w b n h up sc de ga b0 b1 b2 b3 lg va vb) (h1 : 1 ≤ h) (h2 : h ≤ n) (h3 : n ≤ 4096) (hm : s.size ≤ 1073741824) (hs : 4 * h + 2 * (n - h) ≤ s.size) :
    Calls Tryz.prog 200 #[.pointer (some ⟨b, 0, none⟩), .string s] w fun e w' => e = .returned (.bool true) ∧ HxR s b n h w up sc de ga b0 b1 b2 b3 lg w' := by
  have CN := hide (fun (k : Nat) (z : Int) (w : World) (hz : z = (k : Int)) (hk : k + 2 ≤ s.size) => number_any s k z w hz (by omega) hm)
  have CG := hide (fun (k : Nat) (z : Int) (w : World) (hz : z = (k : Int)) (hk : k + 2 ≤ s.size) => signed_any s k z w hz (by omega) hm)
  have g0 := hR.cell 0
  have g1 := hR.cell 1
  have hlt := hR.lt
  simp [rcs] at g0 g1
  have c1 : (1 : Int) ≤ (h : Int) := by omega
  have c2 : (h : Int) ≤ (n : Int) := by omega
  have c3 : (n : Int) ≤ 4096 := by omega
  have c4 : ¬ (s.size : Int) < 4 * (h : Int) + 2 * ((n : Int) - (h : Int)) := by omega
  have c5 : (s.size : Int) ≤ 1073741824 := by omega
  have HR := hide hR
  have HF := hide (And.intro h1 (And.intro h2 (And.intro h3 (And.intro hm hs))))
  have c6 : (0 : Int) ≤ (n : Int) := by omega
  have MK := make_ints n (by omega)
  generalize hZ : Array.replicate n (Value.int .i64 0) = Z at MK
  have HZ := hide hZ
  clear hR h1 h2 h3 hm hs hZ
  go_enter Tryz.func200, Tryz.ntmps200
  go_wp2_with fail
  go_quiet (fail)
  go_wp2_with fail
  have hn1 := World.new_ne w ⟨b, 0, none⟩ g0
  go_region_held3 (fun x => x.cell? ⟨b, 0, none⟩ = some (.int .i64 n) ∧ x.cell? ⟨b, 1, none⟩ = some (.int .i64 h)) (go_keep) ((fail))
  generalize hq : w.heap.size + 1 = q
  generalize hp : w.heap.size = p
  have hpq : p ≠ q := by omega
  rotate_left
  generalize hp : w.heap.size + 1 = p
  generalize hq : w.heap.size = q
  have hpq : p ≠ q := by omega
  all_goals
    have hp0 : w.heap.size ≤ p := by omega
    have hq0 : w.heap.size ≤ q := by omega
    have hT : Two s w b p q n h 0 (fun x => RB x b n h up sc de ga b0 b1 b2 b3 lg va vb) (((w.drewN (nq + 1)).alloc (.cells Z 3)).alloc (.cells Z 3)) := by
      have k1 : Blk (((w.drewN (nq + 1)).alloc (.cells Z 3)).alloc (.cells Z 3)) w.heap.size Z 3 := (Blk.new (w.drewN (nq + 1)) Z 3).below ((Below.refl _ _).alloc (Nat.le_refl _) _)
      have k2 : Blk (((w.drewN (nq + 1)).alloc (.cells Z 3)).alloc (.cells Z 3)) (w.heap.size + 1) Z 3 := by
        have := Blk.new ((w.drewN (nq + 1)).alloc (.cells Z 3)) Z 3
        simpa using this
      have hb : Below w.heap.size w (((w.drewN (nq + 1)).alloc (.cells Z 3)).alloc (.cells Z 3)) := ((below_drewN (Below.refl _ _) _).alloc (Nat.le_refl _) _).alloc (by simp) _
      refine ⟨?_, ?_, HR.out.below hb, But.of_below hb⟩
      · rw [arr_zero, HZ.out]; first | (rw [← hp]; exact k1) | (rw [← hp]; exact k2)
      · rw [arr_zero, HZ.out]; first | (rw [← hq]; exact k1) | (rw [← hq]; exact k2)
    have HP := hide (And.intro hpq (And.intro hp0 hq0))
    have HT0 := hide hT
    generalize ((w.drewN (nq + 1)).alloc (.cells Z 3)).alloc (.cells Z 3) = W0 at HT0 ⊢
    have r0 := HT0.out.r.cell 0
    have r1 := HT0.out.r.cell 1
    have hltw := HT0.out.r.lt
    simp [rcs] at r0 r1
    clear hT g0 g1 MK HZ hp hq hpq hp0 hq0 hn1
    go_wp2_with fail
    go_loopw [44] (fun vi wr => ∃ (k : Nat), vi = .int .i64 k ∧ Hid (k ≤ h ∧ Two s w b p q n h k (fun x => RB x b n h up sc de ga b0 b1 b2 b3 lg va vb) wr)) (fun vi _ => h - (intOf vi).toNat)
    case atStart => exact ⟨0, rfl, hide ⟨by omega, HT0.out⟩⟩
    case round =>
      obtain ⟨k, rfl, HV⟩ := hrel
      clear HT0 r0 r1 hltw
      obtain ⟨hk, ht⟩ := HV.out
      have hk0 : (0 : Int) ≤ (k : Int) := by omega
      have HT := hide ht
      clear HV
      by_cases hlt' : k < h
      · have hlt2 : (k : Int) < (h : Int) := by omega
        have e4 : advF s h k = ((n2 s.data.toList (4 * k) : Nat) : Int) := if_pos hlt'
        have e5 : beaF s h k = s2 s.data.toList (4 * k + 2) := if_pos hlt'
        obtain ⟨f1, f2, f3, f4, f5⟩ := HF.out
        have C1 := hide (fun w => CN.out (4 * k) (4 * (k : Int)) w (by omega) (by omega))
        have C2 := hide (fun w => CG.out (4 * k + 2) (4 * (k : Int) + 2) w (by omega) (by omega))
        rw [← e4] at C1
        rw [← e5] at C2
        obtain ⟨x1, x2, x3, x4, x5, x6⟩ := ht.cells (show k < n by omega)
        have hk' : (k : Int) ≤ 4096 := by omega
        have hkn : (k : Int) < (n : Int) := by omega
        have HST := hide (fun m => ht.step (show k < n by omega) HP.out.1 HP.out.2.1 HP.out.2.2 hlt m)
        have HPQ := HP.out.1
        clear ht e4 e5 f1 f2 f3 f4 f5 HT
        generalize advF s h k = A at C1 HST
        generalize beaF s h k = B at C2 HST
        go_wp2_with (first | (go_at_call 236; refine (C1.out _).mono ?_; rintro e w1 ⟨rfl, m, rfl⟩) | (go_at_call 238; refine (C2.out _).mono ?_; rintro e w1 ⟨rfl, m', rfl⟩))
        go_roundw
        case rel => exact ⟨k + 1, by go_num, hide ⟨by omega, HST.out _⟩⟩
        case measure => simp [intOf]; omega
      · have hlt2 : ¬ (k : Int) < (h : Int) := by omega
        obtain rfl : k = h := by omega
        have r0 := ht.r.cell 0
        have r1 := ht.r.cell 1
        have hltw := ht.r.lt
        simp [rcs] at r0 r1
        clear ht hlt' hk
        go_wp2_with fail
        go_loopw [9] (fun vi wr => ∃ (i : Nat), vi = .int .i64 i ∧ Hid (k ≤ i ∧ i ≤ n ∧ Two s w b p q n k i (fun x => RB x b n k up sc de ga b0 b1 b2 b3 lg va vb) wr)) (fun vi _ => n - (intOf vi).toNat)
        case atStart => exact ⟨k, rfl, hide ⟨by omega, HF.out.2.1, HT.out⟩⟩
        case round =>
          obtain ⟨i, rfl, HV⟩ := hrel
          clear HT r0 r1 hltw
          obtain ⟨hki, hin, ht⟩ := HV.out
          have HT := hide ht
          have HI := hide (And.intro hki hin)
          have r0 := ht.r.cell 0
          have r1 := ht.r.cell 1
          have hltw := ht.r.lt
          simp [rcs] at r0 r1
          clear HV
          by_cases hlt' : i < n
          · have hlt3 : (i : Int) < (n : Int) := by omega
            obtain ⟨f1, f2, f3, f4, f5⟩ := HF.out
            obtain ⟨j, hj⟩ : ∃ j, k = j + 1 := ⟨k - 1, by omega⟩
            obtain ⟨d, hd⟩ : ∃ d, d = i - k := ⟨_, rfl⟩
            have e4 : advF s k i = advF s k j := by
              unfold advF
              rw [if_neg (by omega), if_pos (by omega), show 4 * k - 4 = 4 * j by omega]
            have e5 : beaF s k i = s2 s.data.toList (4 * k + 2 * d) := by
              unfold beaF
              rw [if_neg (by omega), hd]
            have C2 := hide (fun w => CG.out (4 * k + 2 * d) (4 * (k : Int) + 2 * (d : Int)) w (by omega) (by omega))
            rw [← e5] at C2
            obtain ⟨x1, x2, x3, x4, x5, x6⟩ := ht.cells hlt'
            have y1 : wr.cell? ⟨p, j, none⟩ = some (.int .i64 (advF s k i)) := by
              rw [ht.a.cell j, arr_at _ _ _ _ (by omega), if_pos (by omega), e4]
            have HST := hide (fun m => ht.step hlt' HP.out.1 HP.out.2.1 HP.out.2.2 hlt m)
            have HPQ := HP.out.1
            have hji : j ≠ i := by omega
            have m1 : (k : Int) - 1 = (j : Int) := by omega
            have m2 : (i : Int) - (k : Int) = (d : Int) := by omega
            have m3 : (d : Int) ≤ 4096 := by omega
            have m4 : (i : Int) ≤ 4096 := by omega
            have m5 : IntKind.i64.wrap (2 * (d : Int)) = 2 * (d : Int) := by rw [IntKind.wrap_i64]; omega
            have m6 : IntKind.i64.wrap (4 * (k : Int) + 2 * (d : Int)) = 4 * (k : Int) + 2 * (d : Int) := by rw [IntKind.wrap_i64]; omega
            have m7 : (j : Int) < (n : Int) := by omega
            have m8 : IntKind.i64.wrap (j : Int) = (j : Int) := by rw [IntKind.wrap_i64]; omega
            have m9 : IntKind.i64.wrap (d : Int) = (d : Int) := by rw [IntKind.wrap_i64]; omega
            have m10 : (0 : Int) ≤ (j : Int) := by omega
            have m11 : (0 : Int) ≤ (i : Int) := by omega
            clear ht e4 e5 f1 f2 f3 f4 f5 HT hd hj hki hin
            generalize advF s k i = A at y1 HST
            generalize beaF s k i = B at C2 HST
            go_wp2_with fail
            go_region_with ((go_at_call 238; refine (C2.out _).mono ?_; rintro e w1 ⟨rfl, m, rfl⟩))
            all_goals
              go_wp2_with fail
              go_roundw
              case rel => exact ⟨i + 1, by go_num, hide ⟨by have := HI.out; omega, by omega, HST.out _⟩⟩
              case measure => simp [intOf]; omega
          · have hlt3 : ¬ (i : Int) < (n : Int) := by omega
            obtain rfl : i = n := by omega
            have r11 := ht.r.cell 11
            have r12 := ht.r.cell 12
            have s11 := ht.r.frozen 11
            have s12 := ht.r.frozen 12
            simp [rcs] at r11 r12
            clear ht hlt'
            go_wp2_with fail
            go_ret
            refine ⟨rfl, p, q, HP.out.2.1, HP.out.2.2, HP.out.1, ?_, ?_, ?_, ?_⟩
            · exact Blk.other (Blk.other HT.out.a (by have := HP.out; omega) 11 _) (by have := HP.out; omega) 12 _
            · exact Blk.other (Blk.other HT.out.c (by have := HP.out; omega) 11 _) (by have := HP.out; omega) 12 _
            · have := Blk.set (Blk.set HT.out.r 11 (.slice (some ⟨p, 0, none⟩) i i)) 12 (.slice (some ⟨q, 0, none⟩) i i)
              simpa [rcs, RB] using this
            · exact HT.out.o.trans ((But.setCell b _ 11 _).trans (But.setCell b _ 12 _))
end Go.Proofs.YtpdfpbbamnhkfaaGreatDoor
