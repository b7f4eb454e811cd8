/-
  What the landed Split answers (made by g10sp.py).
-/
import Derived.Test.YtjacjdglklcijaaDoorG10Sa
namespace Go.Proofs.YtjacjdglklcijaaDoor
open Go.RowKit Go.Deep
set_option linter.unusedVariables false
set_option linter.unusedSimpArgs false

theorem below_d {V a b x : World} (h : Below V.heap.size V a) (hx : Below b.heap.size b x) (e0 : b.os = a.os) (e1 : b.tape = a.tape) (e2 : b.output = a.output) (e3 : b.heap = a.heap) : Below V.heap.size V x :=
  h.trans ⟨hx.os.trans e0, hx.tape.trans e1, hx.output.trans e2, e3 ▸ hx.size, fun k hk => by rw [hx.block k (by rw [e3]; exact Nat.lt_of_lt_of_le hk h.size), e3]⟩
theorem cell_other {w : World} {G H o j : Nat} {v : Value} (h : G ≠ H) : (w.setCell ⟨H, o, none⟩ v).cell? ⟨G, j, none⟩ = w.cell? ⟨G, j, none⟩ := World.cell?_of_block (w := w) (Below.heap_setCell _ _ _ _ h)
theorem srt_mono {f : Nat → Int} {n : Nat} (h : srtB f n = true) : ∀ d i, i + d < n → f i ≤ f (i + d) := by
  intro d
  induction d with
  | zero => intro i _; simp
  | succ d ih =>
    intro i hi
    have h1 := ih i (by omega)
    have h2 := (srt_iff f n).1 h (i + d) (by omega)
    have : i + (d + 1) = i + d + 1 := by omega
    rw [this]; omega
def szV (lg : Bool) : Nat := if lg then 4 else 2
/- the number i of loca -/
def plc (l : List UInt8) (lg : Bool) (i : Nat) : Nat := if lg then n4 l (4 * i) else 2 * n2 l (2 * i)
def plI (l : List UInt8) (lg : Bool) (i : Nat) : Int := ((plc l lg i : Nat) : Int)
theorem plc_le (l : List UInt8) (lg : Bool) (i : Nat) : plc l lg i ≤ 4294967295 := by
  have h1 := n4_lt l (4 * i)
  have h2 := n2_lt l (2 * i)
  unfold plc
  split <;> omega
def splB (l : List UInt8) (G : Nat) (n : Int) (lg : Bool) : Bool :=
  decide (1 ≤ n ∧ n ≤ 4096 ∧ szV lg * (n.toNat + 1) ≤ l.length) && (srtB (plI l lg) (n.toNat + 1) && decide (plc l lg n.toNat ≤ G))
def splG (l : List UInt8) (g : ByteArray) (lg : Bool) (i : Nat) : ByteArray := g.extract (plc l lg i) (plc l lg (i + 1))
def splV (l : List UInt8) (g : ByteArray) (n : Nat) (lg : Bool) : List ByteArray := (List.range n).map (splG l g lg)
def SpR (w : World) (l : List UInt8) (g : ByteArray) (n : Int) (lg : Bool) (e : Ending) (w' : World) : Prop :=
  if splB l g.size n lg = true then ∃ q, e = .returned (.tuple #[.slice (some ⟨q, 0, none⟩) n.toNat n.toNat, .int .i64 0]) ∧ SLst w' (some ⟨q, 0, none⟩) (splV l g n.toNat lg) ∧ Below w.heap.size w w'
  else e = .returned (.tuple #[.slice none 0 0, .int .i64 100]) ∧ Below w.heap.size w w'
theorem spl_no {l : List UInt8} {G : Nat} {n : Int} {lg : Bool} (h : ¬ (1 ≤ n ∧ n ≤ 4096 ∧ szV lg * (n.toNat + 1) ≤ l.length)) : splB l G n lg = false := by
  unfold splB; rw [decide_eq_false h]; rfl
set_option maxHeartbeats 1000000 in
theorem spl_bad_t (l g : ByteArray) (n : Int) (w : World) (hl : l.size ≤ 1000000) (hn0 : -9223372036854775808 ≤ n) (hn1 : n ≤ 9223372036854775807) (h : ¬ (1 ≤ n ∧ n ≤ 4096 ∧ 4 * (n.toNat + 1) ≤ l.size)) :
    Calls Tryd.prog 10 #[.string l, .string g, .int .i64 n, .bool true] w fun e w' => e = .returned (.tuple #[.slice none 0 0, .int .i64 100]) ∧ w' = w := by
  have hl' : (l.size : Int) ≤ 1000000 := by omega
  by_cases h1 : n < 1
  · have t1 : decide (n < 1) = true := by simpa using h1
    clear h
    go_enter Tryd.func10, Tryd.ntmps10
    go_wp2_with fail
    go_ret2
    exact ⟨rfl, rfl⟩
  have t1 : decide (n < 1) = false := by simpa using h1
  by_cases h2 : 4096 < n
  · have t2 : decide (4096 < n) = true := by simpa using h2
    clear h
    go_enter Tryd.func10, Tryd.ntmps10
    go_wp2_with fail
    go_ret2
    exact ⟨rfl, rfl⟩
  have t2 : decide (4096 < n) = false := by simpa using h2
  have h3 : (l.size : Int) < 4 * (n + 1) := by omega
  have t3 : decide ((l.size : Int) < 4 * (n + 1)) = true := by simpa using h3
  have b1 : 1 ≤ n := by omega
  have b2 : n ≤ 4096 := by omega
  clear h h1 h2
  go_enter Tryd.func10, Tryd.ntmps10
  go_wp2_with fail
  go_ret2
  exact ⟨rfl, rfl⟩
set_option maxHeartbeats 1000000 in
theorem spl_bad_f (l g : ByteArray) (n : Int) (w : World) (hl : l.size ≤ 1000000) (hn0 : -9223372036854775808 ≤ n) (hn1 : n ≤ 9223372036854775807) (h : ¬ (1 ≤ n ∧ n ≤ 4096 ∧ 2 * (n.toNat + 1) ≤ l.size)) :
    Calls Tryd.prog 10 #[.string l, .string g, .int .i64 n, .bool false] w fun e w' => e = .returned (.tuple #[.slice none 0 0, .int .i64 100]) ∧ w' = w := by
  have hl' : (l.size : Int) ≤ 1000000 := by omega
  by_cases h1 : n < 1
  · have t1 : decide (n < 1) = true := by simpa using h1
    clear h
    go_enter Tryd.func10, Tryd.ntmps10
    go_wp2_with fail
    go_ret2
    exact ⟨rfl, rfl⟩
  have t1 : decide (n < 1) = false := by simpa using h1
  by_cases h2 : 4096 < n
  · have t2 : decide (4096 < n) = true := by simpa using h2
    clear h
    go_enter Tryd.func10, Tryd.ntmps10
    go_wp2_with fail
    go_ret2
    exact ⟨rfl, rfl⟩
  have t2 : decide (4096 < n) = false := by simpa using h2
  have h3 : (l.size : Int) < 2 * (n + 1) := by omega
  have t3 : decide ((l.size : Int) < 2 * (n + 1)) = true := by simpa using h3
  have b1 : 1 ≤ n := by omega
  have b2 : n ≤ 4096 := by omega
  clear h h1 h2
  go_enter Tryd.func10, Tryd.ntmps10
  go_wp2_with fail
  go_ret2
  exact ⟨rfl, rfl⟩
set_option maxRecDepth 8000 in
set_option maxHeartbeats 4000000 in
theorem spl_t (l g : ByteArray) (n : Nat) (w : World) (hl : l.size ≤ 1000000) (hg : g.size ≤ 1000000) (h1 : 1 ≤ n) (h2 : n ≤ 4096) (h3 : 4 * (n + 1) ≤ l.size) :
    Calls Tryd.prog 10 #[.string l, .string g, .int .i64 (n : Int), .bool true] w (SpR w l.data.toList g (n : Int) true) := by
  have hl' : (l.size : Int) ≤ 1000000 := by omega
  have hg' : (g.size : Int) ≤ 1000000 := by omega
  have t1 : decide ((n : Int) < 1) = false := by simp; omega
  have t2 : decide (4096 < (n : Int)) = false := by simp; omega
  have t3 : decide ((l.size : Int) < 4 * ((n : Int) + 1)) = false := by simp; omega
  have b1 : (1 : Int) ≤ (n : Int) := by omega
  have b2 : (n : Int) ≤ 4096 := by omega
  have HF := hide (And.intro hl (And.intro hg (And.intro h1 (And.intro h2 h3))))
  have MK := make_ints (n + 1) ((n : Int) + 1) (by omega) (by omega)
  have hZ : Array.replicate (n + 1) (Value.int .i64 0) = arw (fun i => .int .i64 (plI l.data.toList true i)) (.int .i64 0) (n + 1) 0 := (arw_zero _ _ _).symm
  rw [hZ] at MK
  have HSB : Hid (splB l.data.toList g.size (n : Int) true = (srtB (plI l.data.toList true) (n + 1) && decide (plc l.data.toList true n ≤ g.size))) := hide (by
    unfold splB
    rw [Int.toNat_natCast, decide_eq_true (show 1 ≤ (n : Int) ∧ (n : Int) ≤ 4096 ∧ szV true * (n + 1) ≤ l.data.toList.length from ⟨b1, b2, by rw [← Lib.size_eq]; exact h3⟩)]
    rfl)
  have HPF : Hid (∀ k, k < n + 1 → 1 * numV (l.extract (4 * k) (4 * k + 4)).data.toList = plc l.data.toList true k) := hide fun k hk => by
    rw [ext4 l _ (by omega)]
    unfold plc
    simp
  have HPL := hide (plc_le l.data.toList true)
  generalize hpf : plI l.data.toList true = pf at MK HSB
  have HPI := hide hpf
  generalize hA0 : arw (fun i => .int .i64 (pf i)) (.int .i64 0) (n + 1) 0 = Z at MK
  have HZ := hide hA0
  have hb0 : Below w.heap.size w (w.alloc (.cells Z 3)) := (Below.refl _ _).alloc (Nat.le_refl _) _
  have HB0 := hide hb0
  have HK0 := hide (Blk.new w Z 3)
  clear hl hg h1 h2 h3 hZ hpf hA0 hb0
  go_enter Tryd.func10, Tryd.ntmps10
  go_wp2_with fail
  generalize hG : w.heap.size = G at HB0 HK0 ⊢
  have HG := hide hG
  clear hG
  go_loopw [37] (fun v wr => ∃ k : Nat, v = .int .i64 (k : Int) ∧ Hid (k ≤ n + 1 ∧ Blk wr G (arw (fun i => .int .i64 (pf i)) (.int .i64 0) (n + 1) k) 3 ∧ Below G w wr)) (fun v _ => n + 1 - (intOf v).toNat)
  case atStart => exact ⟨0, rfl, hide ⟨by omega, by rw [HZ.out]; exact HK0.out, HB0.out⟩⟩
  case round =>
    obtain ⟨k, rfl, HV⟩ := hrel
    obtain ⟨k1, k2, k3⟩ := HV.out
    have hk0 : (0 : Int) ≤ (k : Int) := by omega
    have K3 := hide k3
    have hlt := k2.lt
    clear HV HK0 HB0
    by_cases hk : k < n + 1
    · have hk' : (k : Int) < (n : Int) + 1 := by omega
      have hf := HF.out
      have c0 : wr.cell? ⟨G, k, none⟩ = some (.int .i64 0) := by rw [k2.cell k, arw_at _ _ _ _ _ hk, if_neg (by omega)]
      have f0 := k2.frozen k
      have K2 : Hid (Blk (wr.setCell ⟨G, k, none⟩ (.int .i64 (pf k))) G (arw (fun i => .int .i64 (pf i)) (.int .i64 0) (n + 1) (k + 1)) 3) := hide (by
        have := Blk.set k2 k (.int .i64 (pf k))
        rw [show (Value.int .i64 (pf k)) = (fun i => Value.int .i64 (pf i)) k from rfl, arw_set _ _ _ _ hk] at this
        exact this)
      obtain ⟨A, hA⟩ : ∃ A : Int, 4 * (k : Int) = A := ⟨_, rfl⟩
      obtain ⟨B, hB⟩ : ∃ B : Int, 4 * ((k : Int) + 1) = B := ⟨_, rfl⟩
      have m1 : (0 : Int) ≤ A := by omega
      have m2 : A ≤ B := by omega
      have m3 : B ≤ (l.size : Int) := by omega
      have m4 : A.toNat = 4 * k := by omega
      have m5 : B.toNat = 4 * k + 4 := by omega
      have CN := hide (fun w => num_any (l.extract (4 * k) (4 * k + 4)) w (by rw [ext_size l _ 4 (by omega)]; omega))
      have hpk : (pf k) = ((plc l.data.toList true k : Nat) : Int) := by rw [← HPI.out]; rfl
      have HP := hide (HPF.out k hk)
      have hb := HPL.out k
      have HQ : Hid ((1 : Int) * ((numV (l.extract (4 * k) (4 * k + 4)).data.toList : Nat) : Int) = pf k) := hide (by rw [hpk, ← HP.out]; simp)
      have hb2 : ((numV (l.extract (4 * k) (4 * k + 4)).data.toList : Nat) : Int) ≤ 4294967295 := by have := HP.out; omega
      have hb3 : (0 : Int) ≤ ((numV (l.extract (4 * k) (4 * k + 4)).data.toList : Nat) : Int) := by omega
      generalize ((numV (l.extract (4 * k) (4 * k + 4)).data.toList : Nat) : Int) = Y at CN HQ hb2 hb3
      clear hf k2 k3 hpk HP hb
      go_wp2_with fail
      refine (CN.out _).mono ?_
      rintro e wy ⟨rfl, hy⟩
      subst wy
      have hq := HQ.out
      go_wp2_with fail
      go_roundw
      case rel => exact ⟨k + 1, by go_num, hide ⟨by omega, K2.out, K3.out.setCell (p := ⟨G, k, none⟩) (Nat.le_refl _) _⟩⟩
      case measure => simp [intOf]; omega
    · obtain rfl : k = n + 1 := by omega
      have hk' : ¬ ((n + 1 : Nat) : Int) < (n : Int) + 1 := by omega
      have hf := HF.out
      have hcell : ∀ i, i < n + 1 → wr.cell? ⟨G, i, none⟩ = some (.int .i64 (pf i)) := fun i hi => by rw [k2.cell i, arw_at _ _ _ _ _ hi, if_pos hi]
      have CS := hide (sorted_any G (n + 1) pf wr (by omega) (by omega) hlt hcell)
      have HCL := hide hcell
      clear k2 k3 hk hcell
      go_wp2_with fail
      refine CS.out.mono ?_
      rintro e wy ⟨rfl, m, hw⟩
      subst wy
      cases hsr : srtB pf (n + 1)
      case false =>
        have E := hide (show splB l.data.toList g.size (n : Int) true = false by rw [HSB.out, hsr]; rfl)
        go_wp2_with fail
        go_ret2
        unfold SpR
        rw [E.out]
        exact ⟨rfl, by rw [HG.out]; exact below_drewN K3.out m⟩
      have HSR := hide hsr
      have c0 := HCL.out n (by omega)
      have n0 : (0 : Int) ≤ (n : Int) := by omega
      have n1 : (n : Int) < (n : Int) + 1 := by omega
      have hpn : pf n = ((plc l.data.toList true n : Nat) : Int) := by rw [← HPI.out]; rfl
      by_cases hle : plc l.data.toList true n ≤ g.size
      case neg =>
        have E := hide (show splB l.data.toList g.size (n : Int) true = false by rw [HSB.out, decide_eq_false hle, Bool.and_false])
        have hq : (g.size : Int) < pf n := by omega
        have hq' : decide ((g.size : Int) < pf n) = true := by simpa using hq
        generalize pf n = X at c0 hq hq'
        clear hpn hsr
        go_wp2_with fail
        go_ret2
        unfold SpR
        rw [E.out]
        exact ⟨rfl, by rw [HG.out]; exact below_drewN K3.out m⟩
      have E := hide (show splB l.data.toList g.size (n : Int) true = true by rw [HSB.out, hsr, decide_eq_true hle]; rfl)
      have hq : ¬ (g.size : Int) < pf n := by omega
      have hq' : decide ((g.size : Int) < pf n) = false := by simpa using hq
      have MS := make_strs n (by omega)
      rw [show Array.replicate n (Value.string ⟨#[]⟩) = arw (fun i => .string (splG l.data.toList g true i)) (.string ⟨#[]⟩) n 0 from (arw_zero _ _ _).symm] at MS
      generalize hA0 : arw (fun i => .string (splG l.data.toList g true i)) (.string ⟨#[]⟩) n 0 = Z2 at MS
      have HZ2 := hide hA0
      have HQN := hide (show pf n ≤ (g.size : Int) by omega)
      generalize hX : pf n = X at c0 hq hq'
      clear hpn hsr hX hA0 MK
      go_wp2_with fail
      clear c0 hq hq' MS
      have HV0 : Hid (Below G w (wr.drewN m)) := hide (below_drewN K3.out m)
      have HC0 : Hid (∀ i, i < n + 1 → (wr.drewN m).cell? ⟨G, i, none⟩ = some (.int .i64 (pf i))) := hide HCL.out
      have hGV : G < (wr.drewN m).heap.size := hlt
      have e0 : (wr.drewN m).heap.size = wr.heap.size := rfl
      generalize hVV : wr.drewN m = V at HV0 HC0 hGV e0 ⊢
      rw [← e0]
      have hb1 : Below V.heap.size V (V.alloc (.cells Z2 9)) := (Below.refl _ _).alloc (Nat.le_refl _) _
      have HB1 := hide hb1
      have HK1 := hide (Blk.new V Z2 9)
      clear e0 hVV hb1 HCL K3 CS
      generalize hHV : V.heap.size = H at HB1 HK1 hGV ⊢
      have HH := hide hHV
      clear hHV
      go_loopw [72] (fun v wr => ∃ k : Nat, v = .int .i64 (k : Int) ∧ Hid (k ≤ n ∧ Blk wr H (arw (fun i => .string (splG l.data.toList g true i)) (.string ⟨#[]⟩) n k) 9 ∧ Below H V wr)) (fun v _ => n - (intOf v).toNat)
      case atStart => exact ⟨0, rfl, hide ⟨by omega, by rw [HZ2.out]; exact HK1.out, HB1.out⟩⟩
      case round =>
        obtain ⟨k, rfl, HV⟩ := hrel
        obtain ⟨k1, k2, k3⟩ := HV.out
        have hk0 : (0 : Int) ≤ (k : Int) := by omega
        have K3 := hide k3
        have K2 := hide k2
        have hlt2 := k2.lt
        clear HV HK1 HB1
        by_cases hk : k < n
        · have hkn : (k : Int) < (n : Int) := by omega
          have hk1 : (k : Int) < (n : Int) + 1 := by omega
          have hk2 : (k : Int) + 1 < (n : Int) + 1 := by omega
          have hk3 : (0 : Int) ≤ (k : Int) + 1 := by omega
          have hk4 : ((k : Int) + 1).toNat = k + 1 := by omega
          have hk5 : IntKind.i64.wrap ((k : Int) + 1) = (k : Int) + 1 := by rw [IntKind.wrap_i64]; omega
          have hf := HF.out
          have hmk := srt_mono HSR.out 1 k (by omega)
          have hmn := srt_mono HSR.out (n - (k + 1)) (k + 1) (by omega)
          rw [show k + 1 + (n - (k + 1)) = n by omega] at hmn
          have hgn := HQN.out
          have hX : pf k = ((plc l.data.toList true k : Nat) : Int) := by rw [← HPI.out]; rfl
          have hY : pf (k + 1) = ((plc l.data.toList true (k + 1) : Nat) : Int) := by rw [← HPI.out]; rfl
          have CC := hide (fun w => clone_any (splG l.data.toList g true k) w (by unfold splG; rw [ByteArray.size_extract]; omega))
          have HGE : Hid (g.extract (plc l.data.toList true k) (plc l.data.toList true (k + 1)) = splG l.data.toList g true k) := hide rfl
          have p1 := HC0.out k (by omega)
          have p2 := HC0.out (k + 1) (by omega)
          rw [← k3.cell (p := ⟨G, k, none⟩) hGV] at p1
          rw [← k3.cell (p := ⟨G, k + 1, none⟩) hGV] at p2
          have y1 : pf k ≤ pf (k + 1) := hmk
          have y2 : (0 : Int) ≤ pf k := by omega
          have y3 : pf (k + 1) ≤ (g.size : Int) := by omega
          have y4 : (pf k).toNat = plc l.data.toList true k := by omega
          have y5 : (pf (k + 1)).toNat = plc l.data.toList true (k + 1) := by omega
          have y6 : (0 : Int) ≤ pf (k + 1) := by omega
          have K4 : Hid (Blk wr H (arw (fun i => .string (splG l.data.toList g true i)) (.string ⟨#[]⟩) n k) 9 ∧ k < n) := hide ⟨k2, hk⟩
          generalize pf k = X at p1 y1 y2 y4
          generalize pf (k + 1) = Y at p2 y1 y3 y5 y6
          generalize plc l.data.toList true k = PA at y4 HGE
          generalize plc l.data.toList true (k + 1) = PB at y5 HGE
          have hge := HGE.out
          have hne : G ≠ H := by omega
          have KS : Hid (∀ x, Below wr.heap.size wr x → (x.cell? ⟨G, k, none⟩ = some (.int .i64 X) ∧ x.cell? ⟨G, k + 1, none⟩ = some (.int .i64 Y)) ∧ x.cell? ⟨H, k, none⟩ = some (.string ⟨#[]⟩) ∧ x.frozen? ⟨H, k, none⟩ = false) := hide fun x hx => by
            have hk2' := K4.out.1.below hx
            refine ⟨⟨?_, ?_⟩, ?_, hk2'.frozen k⟩
            · rw [hx.cell (p := ⟨G, k, none⟩) (show G < wr.heap.size by omega)]; exact p1
            · rw [hx.cell (p := ⟨G, k + 1, none⟩) (show G < wr.heap.size by omega)]; exact p2
            · rw [hk2'.cell k, arw_at _ _ _ _ _ hk, if_neg (by omega)]
          have HX : Hid (Below wr.heap.size wr wr) := hide (Below.refl _ _)
          clear hf hmk hmn hgn hX hY k2 k3 HC0
          go_wp2_with fail
          go_region_held3 (fun x => x.cell? ⟨G, k, none⟩ = some (.int .i64 X) ∧ x.cell? ⟨G, k + 1, none⟩ = some (.int .i64 Y)) (first | exact (KS.out _ (below_d HX.out (Below.refl _ _) rfl rfl rfl rfl)).1 | exact ⟨(cell_other hne).trans x0, (cell_other hne).trans x1⟩ | go_keep) ((go_at_call 22; refine (CC.out _).mono ?_; rintro e wy ⟨rfl, hy⟩; replace HX := hide (below_d HX.out hy rfl rfl rfl rfl); clear hy; obtain ⟨⟨x0, x1⟩, x2, x3⟩ := KS.out _ HX.out))
          have K5 : Hid (Blk (wy.setCell ⟨H, k, none⟩ (.string (splG l.data.toList g true k))) H (arw (fun i => .string (splG l.data.toList g true i)) (.string ⟨#[]⟩) n (k + 1)) 9) := hide (by
            have := Blk.set (K4.out.1.below HX.out) k (.string (splG l.data.toList g true k))
            rw [show (Value.string (splG l.data.toList g true k)) = (fun i => Value.string (splG l.data.toList g true i)) k from rfl, arw_set _ _ _ _ hk] at this
            exact this)
          have K6 : Hid (Below H V (wy.setCell ⟨H, k, none⟩ (.string (splG l.data.toList g true k)))) := hide ((K3.out.trans (HX.out.mono (by omega))).setCell (p := ⟨H, k, none⟩) (Nat.le_refl _) _)
          go_wp2_with fail
          go_roundw
          case rel => exact ⟨k + 1, by go_num, hide ⟨by omega, K5.out, K6.out⟩⟩
          case measure => simp [intOf]; omega
        · obtain rfl : k = n := by omega
          have hk' : ¬ (k : Int) < (k : Int) := by omega
          have HS : Hid (SLst wr (some ⟨H, 0, none⟩) (splV l.data.toList g k true)) := hide (Or.inr ⟨H, 0, rfl, hlt2, fun i hi => by
            have hi' : i < k := by simpa [splV] using hi
            rw [Nat.zero_add, k2.cell i, arw_at _ _ _ _ _ hi', if_pos hi']
            simp [splV, hi', List.getD_eq_getElem?_getD]⟩)
          clear k2 k3 hk
          go_wp2_with fail
          go_ret2
          unfold SpR
          rw [E.out, Int.toNat_natCast]
          refine ⟨H, rfl, HS.out, ?_⟩
          rw [HG.out]
          exact HV0.out.trans (K3.out.mono (by omega))
set_option maxRecDepth 8000 in
set_option maxHeartbeats 4000000 in
theorem spl_f (l g : ByteArray) (n : Nat) (w : World) (hl : l.size ≤ 1000000) (hg : g.size ≤ 1000000) (h1 : 1 ≤ n) (h2 : n ≤ 4096) (h3 : 2 * (n + 1) ≤ l.size) :
    Calls Tryd.prog 10 #[.string l, .string g, .int .i64 (n : Int), .bool false] w (SpR w l.data.toList g (n : Int) false) := by
  have hl' : (l.size : Int) ≤ 1000000 := by omega
  have hg' : (g.size : Int) ≤ 1000000 := by omega
  have t1 : decide ((n : Int) < 1) = false := by simp; omega
  have t2 : decide (4096 < (n : Int)) = false := by simp; omega
  have t3 : decide ((l.size : Int) < 2 * ((n : Int) + 1)) = false := by simp; omega
  have b1 : (1 : Int) ≤ (n : Int) := by omega
  have b2 : (n : Int) ≤ 4096 := by omega
  have HF := hide (And.intro hl (And.intro hg (And.intro h1 (And.intro h2 h3))))
  have MK := make_ints (n + 1) ((n : Int) + 1) (by omega) (by omega)
  have hZ : Array.replicate (n + 1) (Value.int .i64 0) = arw (fun i => .int .i64 (plI l.data.toList false i)) (.int .i64 0) (n + 1) 0 := (arw_zero _ _ _).symm
  rw [hZ] at MK
  have HSB : Hid (splB l.data.toList g.size (n : Int) false = (srtB (plI l.data.toList false) (n + 1) && decide (plc l.data.toList false n ≤ g.size))) := hide (by
    unfold splB
    rw [Int.toNat_natCast, decide_eq_true (show 1 ≤ (n : Int) ∧ (n : Int) ≤ 4096 ∧ szV false * (n + 1) ≤ l.data.toList.length from ⟨b1, b2, by rw [← Lib.size_eq]; exact h3⟩)]
    rfl)
  have HPF : Hid (∀ k, k < n + 1 → 2 * numV (l.extract (2 * k) (2 * k + 2)).data.toList = plc l.data.toList false k) := hide fun k hk => by
    rw [ext2 l _ (by omega)]
    unfold plc
    simp
  have HPL := hide (plc_le l.data.toList false)
  generalize hpf : plI l.data.toList false = pf at MK HSB
  have HPI := hide hpf
  generalize hA0 : arw (fun i => .int .i64 (pf i)) (.int .i64 0) (n + 1) 0 = Z at MK
  have HZ := hide hA0
  have hb0 : Below w.heap.size w (w.alloc (.cells Z 3)) := (Below.refl _ _).alloc (Nat.le_refl _) _
  have HB0 := hide hb0
  have HK0 := hide (Blk.new w Z 3)
  clear hl hg h1 h2 h3 hZ hpf hA0 hb0
  go_enter Tryd.func10, Tryd.ntmps10
  go_wp2_with fail
  generalize hG : w.heap.size = G at HB0 HK0 ⊢
  have HG := hide hG
  clear hG
  go_loopw [37] (fun v wr => ∃ k : Nat, v = .int .i64 (k : Int) ∧ Hid (k ≤ n + 1 ∧ Blk wr G (arw (fun i => .int .i64 (pf i)) (.int .i64 0) (n + 1) k) 3 ∧ Below G w wr)) (fun v _ => n + 1 - (intOf v).toNat)
  case atStart => exact ⟨0, rfl, hide ⟨by omega, by rw [HZ.out]; exact HK0.out, HB0.out⟩⟩
  case round =>
    obtain ⟨k, rfl, HV⟩ := hrel
    obtain ⟨k1, k2, k3⟩ := HV.out
    have hk0 : (0 : Int) ≤ (k : Int) := by omega
    have K3 := hide k3
    have hlt := k2.lt
    clear HV HK0 HB0
    by_cases hk : k < n + 1
    · have hk' : (k : Int) < (n : Int) + 1 := by omega
      have hf := HF.out
      have c0 : wr.cell? ⟨G, k, none⟩ = some (.int .i64 0) := by rw [k2.cell k, arw_at _ _ _ _ _ hk, if_neg (by omega)]
      have f0 := k2.frozen k
      have K2 : Hid (Blk (wr.setCell ⟨G, k, none⟩ (.int .i64 (pf k))) G (arw (fun i => .int .i64 (pf i)) (.int .i64 0) (n + 1) (k + 1)) 3) := hide (by
        have := Blk.set k2 k (.int .i64 (pf k))
        rw [show (Value.int .i64 (pf k)) = (fun i => Value.int .i64 (pf i)) k from rfl, arw_set _ _ _ _ hk] at this
        exact this)
      obtain ⟨A, hA⟩ : ∃ A : Int, 2 * (k : Int) = A := ⟨_, rfl⟩
      obtain ⟨B, hB⟩ : ∃ B : Int, 2 * ((k : Int) + 1) = B := ⟨_, rfl⟩
      have m1 : (0 : Int) ≤ A := by omega
      have m2 : A ≤ B := by omega
      have m3 : B ≤ (l.size : Int) := by omega
      have m4 : A.toNat = 2 * k := by omega
      have m5 : B.toNat = 2 * k + 2 := by omega
      have CN := hide (fun w => num_any (l.extract (2 * k) (2 * k + 2)) w (by rw [ext_size l _ 2 (by omega)]; omega))
      have hpk : (pf k) = ((plc l.data.toList false k : Nat) : Int) := by rw [← HPI.out]; rfl
      have HP := hide (HPF.out k hk)
      have hb := HPL.out k
      have HQ : Hid ((2 : Int) * ((numV (l.extract (2 * k) (2 * k + 2)).data.toList : Nat) : Int) = pf k) := hide (by rw [hpk, ← HP.out]; simp)
      have hb2 : ((numV (l.extract (2 * k) (2 * k + 2)).data.toList : Nat) : Int) ≤ 4294967295 := by have := HP.out; omega
      have hb3 : (0 : Int) ≤ ((numV (l.extract (2 * k) (2 * k + 2)).data.toList : Nat) : Int) := by omega
      generalize ((numV (l.extract (2 * k) (2 * k + 2)).data.toList : Nat) : Int) = Y at CN HQ hb2 hb3
      clear hf k2 k3 hpk HP hb
      go_wp2_with fail
      refine (CN.out _).mono ?_
      rintro e wy ⟨rfl, hy⟩
      subst wy
      have hq := HQ.out
      go_wp2_with fail
      go_roundw
      case rel => exact ⟨k + 1, by go_num, hide ⟨by omega, K2.out, K3.out.setCell (p := ⟨G, k, none⟩) (Nat.le_refl _) _⟩⟩
      case measure => simp [intOf]; omega
    · obtain rfl : k = n + 1 := by omega
      have hk' : ¬ ((n + 1 : Nat) : Int) < (n : Int) + 1 := by omega
      have hf := HF.out
      have hcell : ∀ i, i < n + 1 → wr.cell? ⟨G, i, none⟩ = some (.int .i64 (pf i)) := fun i hi => by rw [k2.cell i, arw_at _ _ _ _ _ hi, if_pos hi]
      have CS := hide (sorted_any G (n + 1) pf wr (by omega) (by omega) hlt hcell)
      have HCL := hide hcell
      clear k2 k3 hk hcell
      go_wp2_with fail
      refine CS.out.mono ?_
      rintro e wy ⟨rfl, m, hw⟩
      subst wy
      cases hsr : srtB pf (n + 1)
      case false =>
        have E := hide (show splB l.data.toList g.size (n : Int) false = false by rw [HSB.out, hsr]; rfl)
        go_wp2_with fail
        go_ret2
        unfold SpR
        rw [E.out]
        exact ⟨rfl, by rw [HG.out]; exact below_drewN K3.out m⟩
      have HSR := hide hsr
      have c0 := HCL.out n (by omega)
      have n0 : (0 : Int) ≤ (n : Int) := by omega
      have n1 : (n : Int) < (n : Int) + 1 := by omega
      have hpn : pf n = ((plc l.data.toList false n : Nat) : Int) := by rw [← HPI.out]; rfl
      by_cases hle : plc l.data.toList false n ≤ g.size
      case neg =>
        have E := hide (show splB l.data.toList g.size (n : Int) false = false by rw [HSB.out, decide_eq_false hle, Bool.and_false])
        have hq : (g.size : Int) < pf n := by omega
        have hq' : decide ((g.size : Int) < pf n) = true := by simpa using hq
        generalize pf n = X at c0 hq hq'
        clear hpn hsr
        go_wp2_with fail
        go_ret2
        unfold SpR
        rw [E.out]
        exact ⟨rfl, by rw [HG.out]; exact below_drewN K3.out m⟩
      have E := hide (show splB l.data.toList g.size (n : Int) false = true by rw [HSB.out, hsr, decide_eq_true hle]; rfl)
      have hq : ¬ (g.size : Int) < pf n := by omega
      have hq' : decide ((g.size : Int) < pf n) = false := by simpa using hq
      have MS := make_strs n (by omega)
      rw [show Array.replicate n (Value.string ⟨#[]⟩) = arw (fun i => .string (splG l.data.toList g false i)) (.string ⟨#[]⟩) n 0 from (arw_zero _ _ _).symm] at MS
      generalize hA0 : arw (fun i => .string (splG l.data.toList g false i)) (.string ⟨#[]⟩) n 0 = Z2 at MS
      have HZ2 := hide hA0
      have HQN := hide (show pf n ≤ (g.size : Int) by omega)
      generalize hX : pf n = X at c0 hq hq'
      clear hpn hsr hX hA0 MK
      go_wp2_with fail
      clear c0 hq hq' MS
      have HV0 : Hid (Below G w (wr.drewN m)) := hide (below_drewN K3.out m)
      have HC0 : Hid (∀ i, i < n + 1 → (wr.drewN m).cell? ⟨G, i, none⟩ = some (.int .i64 (pf i))) := hide HCL.out
      have hGV : G < (wr.drewN m).heap.size := hlt
      have e0 : (wr.drewN m).heap.size = wr.heap.size := rfl
      generalize hVV : wr.drewN m = V at HV0 HC0 hGV e0 ⊢
      rw [← e0]
      have hb1 : Below V.heap.size V (V.alloc (.cells Z2 9)) := (Below.refl _ _).alloc (Nat.le_refl _) _
      have HB1 := hide hb1
      have HK1 := hide (Blk.new V Z2 9)
      clear e0 hVV hb1 HCL K3 CS
      generalize hHV : V.heap.size = H at HB1 HK1 hGV ⊢
      have HH := hide hHV
      clear hHV
      go_loopw [72] (fun v wr => ∃ k : Nat, v = .int .i64 (k : Int) ∧ Hid (k ≤ n ∧ Blk wr H (arw (fun i => .string (splG l.data.toList g false i)) (.string ⟨#[]⟩) n k) 9 ∧ Below H V wr)) (fun v _ => n - (intOf v).toNat)
      case atStart => exact ⟨0, rfl, hide ⟨by omega, by rw [HZ2.out]; exact HK1.out, HB1.out⟩⟩
      case round =>
        obtain ⟨k, rfl, HV⟩ := hrel
        obtain ⟨k1, k2, k3⟩ := HV.out
        have hk0 : (0 : Int) ≤ (k : Int) := by omega
        have K3 := hide k3
        have K2 := hide k2
        have hlt2 := k2.lt
        clear HV HK1 HB1
        by_cases hk : k < n
        · have hkn : (k : Int) < (n : Int) := by omega
          have hk1 : (k : Int) < (n : Int) + 1 := by omega
          have hk2 : (k : Int) + 1 < (n : Int) + 1 := by omega
          have hk3 : (0 : Int) ≤ (k : Int) + 1 := by omega
          have hk4 : ((k : Int) + 1).toNat = k + 1 := by omega
          have hk5 : IntKind.i64.wrap ((k : Int) + 1) = (k : Int) + 1 := by rw [IntKind.wrap_i64]; omega
          have hf := HF.out
          have hmk := srt_mono HSR.out 1 k (by omega)
          have hmn := srt_mono HSR.out (n - (k + 1)) (k + 1) (by omega)
          rw [show k + 1 + (n - (k + 1)) = n by omega] at hmn
          have hgn := HQN.out
          have hX : pf k = ((plc l.data.toList false k : Nat) : Int) := by rw [← HPI.out]; rfl
          have hY : pf (k + 1) = ((plc l.data.toList false (k + 1) : Nat) : Int) := by rw [← HPI.out]; rfl
          have CC := hide (fun w => clone_any (splG l.data.toList g false k) w (by unfold splG; rw [ByteArray.size_extract]; omega))
          have HGE : Hid (g.extract (plc l.data.toList false k) (plc l.data.toList false (k + 1)) = splG l.data.toList g false k) := hide rfl
          have p1 := HC0.out k (by omega)
          have p2 := HC0.out (k + 1) (by omega)
          rw [← k3.cell (p := ⟨G, k, none⟩) hGV] at p1
          rw [← k3.cell (p := ⟨G, k + 1, none⟩) hGV] at p2
          have y1 : pf k ≤ pf (k + 1) := hmk
          have y2 : (0 : Int) ≤ pf k := by omega
          have y3 : pf (k + 1) ≤ (g.size : Int) := by omega
          have y4 : (pf k).toNat = plc l.data.toList false k := by omega
          have y5 : (pf (k + 1)).toNat = plc l.data.toList false (k + 1) := by omega
          have y6 : (0 : Int) ≤ pf (k + 1) := by omega
          have K4 : Hid (Blk wr H (arw (fun i => .string (splG l.data.toList g false i)) (.string ⟨#[]⟩) n k) 9 ∧ k < n) := hide ⟨k2, hk⟩
          generalize pf k = X at p1 y1 y2 y4
          generalize pf (k + 1) = Y at p2 y1 y3 y5 y6
          generalize plc l.data.toList false k = PA at y4 HGE
          generalize plc l.data.toList false (k + 1) = PB at y5 HGE
          have hge := HGE.out
          have hne : G ≠ H := by omega
          have KS : Hid (∀ x, Below wr.heap.size wr x → (x.cell? ⟨G, k, none⟩ = some (.int .i64 X) ∧ x.cell? ⟨G, k + 1, none⟩ = some (.int .i64 Y)) ∧ x.cell? ⟨H, k, none⟩ = some (.string ⟨#[]⟩) ∧ x.frozen? ⟨H, k, none⟩ = false) := hide fun x hx => by
            have hk2' := K4.out.1.below hx
            refine ⟨⟨?_, ?_⟩, ?_, hk2'.frozen k⟩
            · rw [hx.cell (p := ⟨G, k, none⟩) (show G < wr.heap.size by omega)]; exact p1
            · rw [hx.cell (p := ⟨G, k + 1, none⟩) (show G < wr.heap.size by omega)]; exact p2
            · rw [hk2'.cell k, arw_at _ _ _ _ _ hk, if_neg (by omega)]
          have HX : Hid (Below wr.heap.size wr wr) := hide (Below.refl _ _)
          clear hf hmk hmn hgn hX hY k2 k3 HC0
          go_wp2_with fail
          go_region_held3 (fun x => x.cell? ⟨G, k, none⟩ = some (.int .i64 X) ∧ x.cell? ⟨G, k + 1, none⟩ = some (.int .i64 Y)) (first | exact (KS.out _ (below_d HX.out (Below.refl _ _) rfl rfl rfl rfl)).1 | exact ⟨(cell_other hne).trans x0, (cell_other hne).trans x1⟩ | go_keep) ((go_at_call 22; refine (CC.out _).mono ?_; rintro e wy ⟨rfl, hy⟩; replace HX := hide (below_d HX.out hy rfl rfl rfl rfl); clear hy; obtain ⟨⟨x0, x1⟩, x2, x3⟩ := KS.out _ HX.out))
          have K5 : Hid (Blk (wy.setCell ⟨H, k, none⟩ (.string (splG l.data.toList g false k))) H (arw (fun i => .string (splG l.data.toList g false i)) (.string ⟨#[]⟩) n (k + 1)) 9) := hide (by
            have := Blk.set (K4.out.1.below HX.out) k (.string (splG l.data.toList g false k))
            rw [show (Value.string (splG l.data.toList g false k)) = (fun i => Value.string (splG l.data.toList g false i)) k from rfl, arw_set _ _ _ _ hk] at this
            exact this)
          have K6 : Hid (Below H V (wy.setCell ⟨H, k, none⟩ (.string (splG l.data.toList g false k)))) := hide ((K3.out.trans (HX.out.mono (by omega))).setCell (p := ⟨H, k, none⟩) (Nat.le_refl _) _)
          go_wp2_with fail
          go_roundw
          case rel => exact ⟨k + 1, by go_num, hide ⟨by omega, K5.out, K6.out⟩⟩
          case measure => simp [intOf]; omega
        · obtain rfl : k = n := by omega
          have hk' : ¬ (k : Int) < (k : Int) := by omega
          have HS : Hid (SLst wr (some ⟨H, 0, none⟩) (splV l.data.toList g k false)) := hide (Or.inr ⟨H, 0, rfl, hlt2, fun i hi => by
            have hi' : i < k := by simpa [splV] using hi
            rw [Nat.zero_add, k2.cell i, arw_at _ _ _ _ _ hi', if_pos hi']
            simp [splV, hi', List.getD_eq_getElem?_getD]⟩)
          clear k2 k3 hk
          go_wp2_with fail
          go_ret2
          unfold SpR
          rw [E.out, Int.toNat_natCast]
          refine ⟨H, rfl, HS.out, ?_⟩
          rw [HG.out]
          exact HV0.out.trans (K3.out.mono (by omega))
theorem split_any (l g : ByteArray) (n : Int) (lg : Bool) (w : World) (hl : l.size ≤ 1000000) (hg : g.size ≤ 1000000) (hn0 : -9223372036854775808 ≤ n) (hn1 : n ≤ 9223372036854775807) :
    Calls Tryd.prog 10 #[.string l, .string g, .int .i64 n, .bool lg] w (SpR w l.data.toList g n lg) := by
  have hsz := Lib.size_eq l
  by_cases h : 1 ≤ n ∧ n ≤ 4096 ∧ szV lg * (n.toNat + 1) ≤ l.data.toList.length
  · obtain ⟨m, rfl⟩ : ∃ m : Nat, n = (m : Int) := ⟨n.toNat, by omega⟩
    rw [← hsz, Int.toNat_natCast] at h
    cases lg
    · exact spl_f l g m w hl hg (by omega) (by omega) h.2.2
    · exact spl_t l g m w hl hg (by omega) (by omega) h.2.2
  · have e := spl_no (G := g.size) h
    have C : Calls Tryd.prog 10 #[.string l, .string g, .int .i64 n, .bool lg] w fun e w' => e = .returned (.tuple #[.slice none 0 0, .int .i64 100]) ∧ w' = w := by
      rw [← hsz] at h
      cases lg
      · exact spl_bad_f l g n w hl hn0 hn1 h
      · exact spl_bad_t l g n w hl hn0 hn1 h
    refine C.mono ?_
    rintro e' w' ⟨rfl, rfl⟩
    unfold SpR
    rw [e]
    exact ⟨rfl, Below.refl _ _⟩
end Go.Proofs.YtjacjdglklcijaaDoor
