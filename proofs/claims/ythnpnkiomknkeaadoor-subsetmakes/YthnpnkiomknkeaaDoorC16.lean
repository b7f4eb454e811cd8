/-
  Joined: G10Nl.
-/
import Derived.Lib.MinMax
import Derived.Test.YthnpnkiomknkeaaDoorC01
import Derived.Test.YthnpnkiomknkeaaDoorC15
namespace Go.Proofs.YthnpnkiomknkeaaDoor.G10
open Go.RowKit Go.Deep Go.Shelf
set_option linter.unusedVariables false
set_option linter.unusedSimpArgs false
def renV (l : List UInt8) (old : List Int) (R : Option (Nat × List Nat)) : Option (List UInt8) := match R with
  | none => none
  | some (_, ps) => rnV l old ps l
def RnR (w : World) (R : Option (List UInt8)) (e : Ending) (w' : World) : Prop := match R with
  | none => e = .returned (.tuple #[.string ⟨#[]⟩, .int .i64 100]) ∧ Below w.heap.size w w'
  | some m => e = .returned (.tuple #[.string ⟨m.toArray⟩, .int .i64 0]) ∧ Below w.heap.size w w'
theorem index_any (a : Option Addr) (k c : Nat) (zs : List Int) (x : Int) (w : World) (hk : k ≤ zs.length) (hb : k ≤ 1000000) (hL : Lst w a zs) :
    Calls Tryd.prog 29 #[.slice a k c, .int .i64 x] w fun e w' => e = .returned (.int .i64 (Lib.idxOf (zs.take k) x)) ∧ w' = w := by
  rcases hL with hz | ⟨b, off, rfl, hlt, hc⟩
  · subst hz
    obtain rfl : k = 0 := by simpa using hk
    have := Any.slices_Index_int_empty lays108 a c x w
    exact this
  · exact Any.slices_Index_int lays108 b off k c zs x w hk (by omega) hc
theorem rn_drop {l : List UInt8} {old : List Int} {ps : List Nat} {k : Nat} {m : List UInt8} (h : k < ps.length) : rnV l old (ps.drop k) m = match fidx old (n2 l (ps.getD k 0)) with | none => none | some j => rnV l old (ps.drop (k + 1)) (put1 m (ps.getD k 0) (j : Int)) := by
  rw [List.drop_eq_getElem_cons h, List.getD_eq_getElem?_getD, List.getElem?_eq_getElem h]
  rfl
set_option maxRecDepth 8000 in
set_option maxHeartbeats 4000000 in
theorem renum_any (s : ByteArray) (a : Option Addr) (n c : Nat) (zs : List Int) (w : World) (hs : s.size ≤ 1000000) (hn : zs.length = n) (hm : n ≤ 1000000) (hc : n ≤ c) (hc2 : c ≤ 9223372036854775807) (hL : Lst w a zs) :
    Calls Tryd.prog 27 #[.string s, .slice a n c] w (RnR w (renV s.data.toList zs (shV s.data.toList))) := by
  have C := look_any s w hs
  have hbd : ∀ p ps, shV s.data.toList = some (p, ps) → (∀ x ∈ ps, x + 2 ≤ s.size) ∧ ps.length ≤ 64 := fun p ps h => by
    have := shV_bd h
    rw [← Lib.size_eq] at this
    exact this.2
  generalize shV s.data.toList = R at C hbd ⊢
  rcases R with _ | ⟨p, ps⟩
  · have C := hide C
    clear hbd
    go_enter Tryd.func27, Tryd.ntmps27
    go_wp2_with fail
    refine C.out.mono ?_
    rintro e w1 ⟨rfl, h1⟩
    have H1 := hide (below_alloc h1 (.cells #[.int .i64 0, .slice none 0 0] 79))
    clear h1
    go_wp2_with fail
    go_ret2
    exact ⟨rfl, H1.out⟩
  have C := hide C
  obtain ⟨hx, hl⟩ := hbd p ps rfl
  clear hbd
  have HXX := hide hx
  have hs' : (s.size : Int) ≤ 1000000 := by omega
  have hm' : (n : Int) ≤ 1000000 := by omega
  have hc' : (n : Int) ≤ (c : Int) := by omega
  obtain ⟨kn, hkn⟩ : ∃ kn : Nat, kn = min n 65536 := ⟨_, rfl⟩
  have hmn : min (n : Int) 65536 = (kn : Int) := by omega
  have hkn0 : (0 : Int) ≤ (kn : Int) := by omega
  have hkn1 : (kn : Int) ≤ (c : Int) := by omega
  have hkn2 : (kn : Int) ≤ (n : Int) := by omega
  have HTK : Hid (zs.take kn = zs.take 65536) := hide (by
    rw [hkn]
    by_cases e : n ≤ 65536
    · rw [Nat.min_eq_left e, List.take_of_length_le (by omega), List.take_of_length_le (by omega)]
    · rw [Nat.min_eq_right (by omega)])
  have CI := hide (fun (x : Int) (w' : World) (hb : Below w.heap.size w w') => index_any a kn c zs x w' (by omega) (by omega) (hL.below hb))
  rw [HTK.out] at CI
  clear hkn hL hn hm hc HTK
  go_enter Tryd.func27, Tryd.ntmps27
  go_wp2_with fail
  refine C.out.mono ?_
  rintro e w1 ⟨v, rfl, q1, h1⟩
  obtain ⟨ad, cap, hv, hLp, hc1, hc3⟩ := q1.lst
  subst hv
  rw [ints_len] at hc1 ⊢
  have hcap : (ps.length : Int) ≤ (cap : Int) := by omega
  have hll : (ps.length : Int) ≤ 64 := by omega
  have hb := (Below.refl w1.heap.size w1).alloc (Nat.le_refl _) (.cells #[.int .i64 (p : Int), .slice ad ps.length cap] 79)
  have H1 := hide (below_alloc h1 (.cells #[.int .i64 (p : Int), .slice ad ps.length cap] 79))
  have H2 := hide (hLp.below hb)
  have HK := hide (Blk.new w1 #[.int .i64 (p : Int), .slice ad ps.length cap] 79)
  clear h1 q1 hLp hb hc1 hc3 hx C
  go_upto_region 2 with (fail)
  generalize w1.heap.size = ob at HK ⊢
  generalize w1.alloc (.cells #[.int .i64 (p : Int), .slice ad ps.length cap] 79) = V at H1 H2 HK ⊢
  have hcv := Lib.run_convert_string_bytes (P := Tryd.prog) V 9 89 5 s (u := .string) Tryd.underlying9 Tryd.underlying89 Tryd.underlying5
  have hbm := BM.new V s
  have hbb := bytes_below V s
  obtain ⟨c0, c1⟩ := (HK.out.below hbb).two.1
  have HBM := hide hbm
  have HBB := hide hbb
  generalize grownCap V s.size 0 5 = GC at hcv
  generalize Lib.bytesWorld V 5 s = V2 at hcv HBM HBB c0 c1
  generalize hgg : V.heap.size = gb at hcv HBM
  have HGG := hide hgg
  clear hbm hbb hgg
  go_wp2_with fail
  clear c0 c1 hcv
  have hsl : s.data.toList.length = s.size := (Lib.size_eq s).symm
  have HSL := hide hsl
  clear hsl
  generalize hll0 : s.data.toList = l at HBM HSL ⊢
  have HLL := hide hll0
  obtain ⟨RR, hRR⟩ : ∃ RR, renV l zs (some (p, ps)) = RR := ⟨_, rfl⟩
  have HRR := hide hRR
  have HRX := hide hRR
  clear hll0 hRR
  go_loopw [30] (fun v wr => ∃ (k : Nat) (m : List UInt8), v = .int .i64 (k : Int) ∧ Hid (k ≤ ps.length ∧ m.length = s.size ∧ rnV l zs (ps.drop k) m = RR ∧ BM wr gb m ∧ Below gb V wr)) (fun v _ => ps.length - (intOf v).toNat)
  case atStart => exact ⟨0, l, rfl, hide ⟨by omega, HSL.out, HRR.out, HBM.out, by rw [← HGG.out]; exact HBB.out⟩⟩
  case round =>
    obtain ⟨k, m, rfl, HV⟩ := hrel
    obtain ⟨k1, k2, k3, k4, k5⟩ := HV.out
    have hk0 : (0 : Int) ≤ (k : Int) := by omega
    have K3 := hide k3
    have K4 := hide k4
    have K5 := hide k5
    have HBW : Hid (Below w.heap.size w wr) := hide (H1.out.trans (k5.mono (by have := H1.out.size; have := HGG.out; omega)))
    clear HV k3 k4 k5 HBM HBB HRR
    by_cases hlt : k < ps.length
    · have hlt' : (k : Int) < (ps.length : Int) := by omega
      have hLw : Lst wr ad (ints ps) := by
        rcases H2.out with hz | ⟨b, o, h1, h2, h3⟩
        · exact Or.inl hz
        · have hg := HGG.out
          have hsz := K5.out.size
          exact Or.inr ⟨b, o, h1, by omega, fun i hi => by rw [K5.out.cell (p := ⟨b, o + i, none⟩) (show b < gb by omega)]; exact h3 i hi⟩
      rcases hLw with hz | ⟨b, o, rfl, hb, hcell⟩
      · have := ints_len ps; rw [hz] at this; simp at this; omega
      have hc := hcell k (by rw [ints_len]; omega)
      rw [ints_at ps k hlt] at hc
      have hP : ps.getD k 0 + 2 ≤ s.size := by
        have hmm : ps.getD k 0 ∈ ps := by
          rw [List.getD_eq_getElem?_getD, List.getElem?_eq_getElem hlt]
          exact List.getElem_mem hlt
        exact HXX.out _ hmm
      have HS := hide (rn_drop (l := l) (old := zs) (m := m) hlt)
      have CN := hide (fun w => num_any (s.extract (ps.getD k 0) (ps.getD k 0 + 2)) w (by rw [ext_size s _ 2 hP]; omega))
      rw [ext2 s _ hP, HLL.out] at CN
      have CX := hide (CI.out ((n2 l (ps.getD k 0) : Nat) : Int) wr HBW.out)
      rw [idx_eq] at CX
      have n0 : (0 : Int) ≤ ((ps.getD k 0 : Nat) : Int) := by omega
      have n1 : ((ps.getD k 0 : Nat) : Int) + 2 ≤ (s.size : Int) := by omega
      have n2' : ((ps.getD k 0 : Nat) : Int) ≤ ((ps.getD k 0 : Nat) : Int) + 2 := by omega
      have n3 : (((ps.getD k 0 : Nat) : Int) + 2).toNat = ps.getD k 0 + 2 := by omega
      have n4 : ((ps.getD k 0 : Nat) : Int) < (s.size : Int) := by omega
      have n5 : ((ps.getD k 0 : Nat) : Int) + 1 < (s.size : Int) := by omega
      have n6 : (((ps.getD k 0 : Nat) : Int) + 1).toNat = ps.getD k 0 + 1 := by omega
      generalize ps.getD k 0 = P at hc CN HS CX n0 n1 n2' n3 n4 n5 n6 hP
      generalize ((n2 l P : Nat) : Int) = XX at CN CX
      cases hf : fidx zs (n2 l P) with
      | none =>
        rw [hf] at CX HS
        have E := hide (show RR = none by rw [← K3.out, HS.out])
        clear hf hcell HS
        go_wp2_with fail
        refine (CN.out _).mono ?_
        rintro e wy ⟨rfl, hy⟩
        subst wy
        go_wp2_with fail
        refine CX.out.mono ?_
        rintro e wy ⟨rfl, hy⟩
        subst wy
        go_wp2_with fail
        go_ret2
        first | rw [HRX.out, E.out] | rw [HLL.out, HRX.out, E.out]
        exact ⟨rfl, HBW.out⟩
      | some j =>
        rw [hf] at CX HS
        obtain ⟨_, hj, _⟩ := fidx_some hf
        have hj' : (j : Int) ≤ 65535 := by omega
        have hj0 : (0 : Int) ≤ (j : Int) := by omega
        have hjn : ¬ (j : Int) < 0 := by omega
        have E := hide (show rnV l zs (ps.drop (k + 1)) (put1 m P (j : Int)) = RR by rw [← K3.out, HS.out])
        have x0 := K4.out.cell P (by omega)
        have x1 := K4.out.cell (P + 1) (by omega)
        have y0 := K4.out.frozen P (by omega)
        have y1 := K4.out.frozen (P + 1) (by omega)
        have hgw := K4.out.lt
        have hput := K4.out.put P (by omega) (j : Int)
        rw [show (j : Int) / 256 % 256 = (j : Int) / 256 by omega] at hput
        have HPUT := hide hput
        clear hput
        clear hf hcell HS
        go_wp2_with fail
        refine (CN.out _).mono ?_
        rintro e wy ⟨rfl, hy⟩
        subst wy
        go_wp2_with fail
        refine CX.out.mono ?_
        rintro e wy ⟨rfl, hy⟩
        subst wy
        go_wp2_with fail
        go_roundw
        case rel => exact ⟨k + 1, put1 m P (j : Int), by go_num, hide ⟨by omega, by rw [put1_len]; exact k2, E.out, HPUT.out, (K5.out.setCell (p := ⟨gb, P, none⟩) (Nat.le_refl _) _).setCell (p := ⟨gb, P + 1, none⟩) (Nat.le_refl _) _⟩⟩
        case measure => simp [intOf]; omega
    · have hlt' : ¬ (k : Int) < (ps.length : Int) := by omega
      have E := hide (show RR = some m by rw [← K3.out, List.drop_eq_nil_of_le (by omega)]; rfl)
      have hcb := BM.text (c := GC) K4.out
      rw [k2] at hcb
      clear k2
      go_wp2_with fail
      go_ret2
      first | rw [HRX.out, E.out] | rw [HLL.out, HRX.out, E.out]
      exact ⟨rfl, HBW.out⟩
end Go.Proofs.YthnpnkiomknkeaaDoor.G10
