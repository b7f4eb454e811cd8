/-
  What utf.Wide answers.
-/
import Derived.Test.YtncmkiejamkklaaDoorU4Wide
namespace Go.Proofs.YtncmkiejamkklaaDoor
open Go.RowKit

theorem Mark.below {w w' : World} {B : Nat} {v : Value} {ys : List UInt8} (h : Mark w B v ys) (hb : Below w.heap.size w w') : Mark w' B v ys := by
  obtain ⟨h1, g, hg, hv, hh⟩ := h
  have hlt : g < w.heap.size := by
    rcases Nat.lt_or_ge g w.heap.size with h | h
    · exact h
    · rw [Array.getElem?_eq_none h] at hh; simp at hh
  exact ⟨h1, g, hg, hv, by rw [hb.block g hlt]; exact hh⟩
theorem BRow.mono {w : World} {B B' : Nat} {v : Value} {ys : List UInt8} (h : BRow w B v ys) (hB : B' ≤ B) : BRow w B' v ys := by
  obtain ⟨h1, h2 | ⟨g, cap, cur, hv, hg, hr⟩⟩ := h
  · exact ⟨h1, Or.inl h2⟩
  · exact ⟨h1, Or.inr ⟨g, cap, cur, hv, Nat.le_trans hB hg, hr⟩⟩
/- one unit more, behind the mark or behind others -/
theorem unit_any (B u : Nat) (v : Value) (ys : List UInt8) (w : World) (h : u ≤ 65535) (hr : Buf w B v ys) (hB : B ≤ w.heap.size) (hl : ys.length ≤ 1000000) :
    Calls Tryd.prog 34 #[v, .int .i64 u] w fun e w' => ∃ v', e = .returned v' ∧ Buf w' B v' (ys ++ [bt (u / 256), bt (u % 256)]) ∧ Below B w w' := by
  rcases hr with hr | hr
  · refine (unit_plain B u _ _ v ys w h rfl rfl hr hB hl).mono ?_
    rintro e w' ⟨v', h1, h2, h3⟩
    exact ⟨v', h1, Or.inl h2, h3⟩
  · obtain ⟨g, hg, hlt, rfl, rfl, c0, c1⟩ := hr.cell
    refine (unit_mark u _ _ g w h rfl rfl hlt c0 c1).mono ?_
    rintro e w' ⟨v', h1, h2, h3⟩
    exact ⟨v', h1, Or.inl (h2.mono hB), h3.mono hB⟩

set_option maxRecDepth 100000 in
set_option maxHeartbeats 1000000 in
theorem wide_core (a : Option Addr) (len cap : Nat) (zs : List Int) (w : World) (hl : zs.length = len) (h4 : len ≤ 65536) (hL : Lst w a zs) (S : List UInt8) (E : Nat) (hS : wrS e16 [254, 255] zs = S) (hE : wrE zs = E) :
    Calls Tryd.prog 22 #[.slice a len cap] w fun e w' => e = .returned (.tuple #[.string ⟨S.toArray⟩, .int .i64 E]) ∧ Below w.heap.size w w' := by
  have kc := fun (w : World) (C : Array Value) (n c : Nat) => Lib.run_convert_bytes_const (P := Tryd.prog) w 52 5 C n c Tryd.underlying52 Tryd.underlying5
  have HL := hide hL
  have Hl := hide hl
  have H4 := hide h4
  have h5 : (len : Int) ≤ 65536 := by omega
  have HS := hide hS
  have HE := hide hE
  have HM := hide (show Mark (w.alloc (.cells #[.int .u8 254, .int .u8 255] 5 (2, 3))) w.heap.size (.slice (some ⟨w.heap.size, 0, none⟩) 2 2) [254, 255] from ⟨rfl, w.heap.size, Nat.le_refl _, rfl, heap_alloc_new _ _⟩)
  have HB0 := hide (show Below w.heap.size w (w.alloc (.cells #[.int .u8 254, .int .u8 255] 5 (2, 3))) from (Below.refl _ _).alloc (Nat.le_refl _) _)
  clear hL hl hS hE h4
  go_enter Tryd.func22, Tryd.ntmps22
  go_wp2_with fail
  go_loopw [4, 12] (fun vt vi wr => ∃ k : Nat, vi = .int .i64 k ∧ Hid (k ≤ len ∧ (zs.take k).all isP = true ∧ Buf wr w.heap.size vt ([254, 255] ++ encs e16 (zs.take k)) ∧ Below w.heap.size w wr)) (fun _ vi _ => len - (intOf vi).toNat)
  case atStart => exact ⟨0, rfl, hide ⟨by omega, by simp, by rw [show ([254, 255] ++ encs e16 (zs.take 0) : List UInt8) = [254, 255] by simp [encs]]; exact Or.inr HM.out, HB0.out⟩⟩
  case round =>
    clear kc
    obtain ⟨k, rfl, HK⟩ := hrel
    obtain ⟨k1, k2, k3, k4⟩ := HK.out
    clear HK
    by_cases hlt : k < len
    · have hlt' : (k : Int) < (len : Int) := by omega
      have hl := Hl.out
      rcases HL.out with hz | ⟨b, off, rfl, hb, hcell⟩
      · rw [hz] at hl; simp at hl; omega
      have hc : wr.cell? ⟨b, off + k, none⟩ = some (.int .i64 (zs.getD k 0)) := by
        rw [k4.cell (p := ⟨b, off + k, none⟩) hb]; exact hcell k (by omega)
      have hbad := all_bad zs k (by omega)
      have htk := take_snoc zs k (by omega)
      have hel := (encs_len code16 (zs.take k)).2
      rw [List.length_take] at hel
      generalize zs.getD k 0 = z at *
      have K3 := hide k3
      have K4 := hide k4
      have K2 := hide k2
      cases hp : isP z
      · have e1 := hbad hp
        obtain rfl : S = [] := by rw [← HS.out]; unfold wrS; rw [e1]; rfl
        obtain rfl : E = 40 := by rw [← HE.out]; unfold wrE; rw [e1]; rfl
        clear hbad htk hel k3 k4 k2 hcell hl HS HE e1
        go_wp2_with (go_at_call 30; refine (point_any _ _).mono ?_; rintro e w1 ⟨rfl, rfl⟩)
        go_ret2
        exact ⟨rfl, K4.out⟩
      · have hz := isP_t.1 hp
        obtain ⟨c, rfl⟩ : ∃ c : Nat, z = (c : Int) := ⟨z.toNat, by omega⟩
        have c1 : (c : Int) ≤ 1114111 := by omega
        have ht : encs e16 (zs.take (k + 1)) = encs e16 (zs.take k) ++ e16 c := by rw [htk, encs_snoc]; rfl
        have HA := hide (show (zs.take (k + 1)).all isP = true by rw [htk, List.all_append, K2.out]; simp [hp])
        have HLN := hide (show ([254, 255] ++ encs e16 (zs.take k)).length ≤ 999990 by rw [List.length_append]; have := H4.out; simp; omega)
        by_cases c2 : c < 65536
        · have he : e16 c = [bt (c / 256), bt (c % 256)] := by unfold e16; rw [if_pos c2]
          have HT := hide (show [254, 255] ++ encs e16 (zs.take (k + 1)) = ([254, 255] ++ encs e16 (zs.take k)) ++ [bt (c / 256), bt (c % 256)] by rw [ht, he]; simp)
          have c3 : (c : Int) < 65536 := by omega
          have CU := hide (unit_any w.heap.size c _ _ wr (by omega) k3 k4.size (by have := HLN.out; omega))
          clear hbad htk hel k3 k4 k2 hcell hl hz ht he c2
          go_wp2_with (first | (go_at_call 30; refine (point_any _ _).mono ?_; rintro e w1 ⟨rfl, rfl⟩) | (go_at_call 34; refine CU.out.mono ?_; rintro e w2 ⟨v2, rfl, hr2, hb2⟩))
          have HB2 := hide (K4.out.trans hb2)
          have HO2 := hide hr2
          clear hr2 hb2
          go_wp2
          go_roundw
          case rel => exact ⟨k + 1, by go_num, hide ⟨by omega, HA.out, by rw [HT.out]; exact HO2.out, HB2.out⟩⟩
          case measure => simp [intOf]; omega
        · obtain ⟨q, hq⟩ : ∃ q, c = 65536 + q := ⟨c - 65536, by omega⟩
          obtain ⟨H, hH⟩ : ∃ H, q / 1024 = H := ⟨_, rfl⟩
          obtain ⟨L, hLo⟩ : ∃ L, q % 1024 = L := ⟨_, rfl⟩
          have he : e16 c = [bt ((55296 + H) / 256), bt ((55296 + H) % 256)] ++ [bt ((56320 + L) / 256), bt ((56320 + L) % 256)] := by
            unfold e16
            rw [if_neg c2, show c - 65536 = q by omega, hH, hLo]
            rfl
          have HT := hide (show [254, 255] ++ encs e16 (zs.take (k + 1)) = (([254, 255] ++ encs e16 (zs.take k)) ++ [bt ((55296 + H) / 256), bt ((55296 + H) % 256)]) ++ [bt ((56320 + L) / 256), bt ((56320 + L) % 256)] by rw [ht, he]; simp)
          have c3 : decide ((c : Int) < 65536) = false := by simp; omega
          have e0 : (c : Int) - 65536 = (q : Int) := by omega
          have q1 : (q : Int) ≤ 1048575 := by omega
          have e1 : (q : Int) / 1024 = (H : Int) := by omega
          have e2 : (q : Int) % 1024 = (L : Int) := by omega
          have r1 : (H : Int) ≤ 1023 := by omega
          have m1 : (L : Int) ≤ 1023 := by omega
          have CU : Hid (∀ (x : Int) v0, x = 55296 + (H : Int) → Buf wr w.heap.size v0 ([254, 255] ++ encs e16 (zs.take k)) → Calls Tryd.prog 34 #[v0, .int .i64 x] wr fun e w' => ∃ v', e = .returned v' ∧ Buf w' w.heap.size v' (([254, 255] ++ encs e16 (zs.take k)) ++ [bt ((55296 + H) / 256), bt ((55296 + H) % 256)]) ∧ Below w.heap.size wr w') := by
            intro x v0 hx h0
            obtain rfl : x = ((55296 + H : Nat) : Int) := by omega
            exact unit_any w.heap.size (55296 + H) _ _ wr (by omega) h0 K4.out.size (by have := HLN.out; omega)
          have CV : Hid (∀ (x : Int) v2 w2, x = 56320 + (L : Int) → Buf w2 w.heap.size v2 (([254, 255] ++ encs e16 (zs.take k)) ++ [bt ((55296 + H) / 256), bt ((55296 + H) % 256)]) → w.heap.size ≤ w2.heap.size → Calls Tryd.prog 34 #[v2, .int .i64 x] w2 fun e w' => ∃ v', e = .returned v' ∧ Buf w' w.heap.size v' ((([254, 255] ++ encs e16 (zs.take k)) ++ [bt ((55296 + H) / 256), bt ((55296 + H) % 256)]) ++ [bt ((56320 + L) / 256), bt ((56320 + L) % 256)]) ∧ Below w.heap.size w2 w') := by
            intro x v2 w2 hx h2 hs2
            obtain rfl : x = ((56320 + L : Nat) : Int) := by omega
            exact unit_any w.heap.size (56320 + L) _ _ w2 (by omega) h2 hs2 (by have := HLN.out; rw [List.length_append]; simp at this ⊢; omega)
          clear hbad htk hel k3 k4 k2 hcell hl hz ht he c2 hq hH hLo
          go_wp2_with (go_at_call 30; refine (point_any _ _).mono ?_; rintro e w1 ⟨rfl, rfl⟩)
          refine (CU.out _ _ (by rfl) K3.out).mono ?_
          rintro e w2 ⟨v2, rfl, hr2, hb2⟩
          have HB2 := hide (K4.out.trans hb2)
          have HO2 := hide hr2
          clear hr2 hb2
          go_wp2_with fail
          refine (CV.out _ _ _ (by rfl) HO2.out HB2.out.size).mono ?_
          rintro e w3 ⟨v3, rfl, hr3, hb3⟩
          have HB3 := hide (HB2.out.trans hb3)
          have HO3 := hide hr3
          clear hr3 hb3
          go_wp2
          go_roundw
          case rel => exact ⟨k + 1, by go_num, hide ⟨by omega, HA.out, by rw [HT.out]; exact HO3.out, HB3.out⟩⟩
          case measure => simp [intOf]; omega
    · have hlt' : ¬ (k : Int) < (len : Int) := by omega
      rw [List.take_of_length_le (by have := Hl.out; omega)] at k2 k3
      have hcv := k3.text
      obtain rfl : [254, 255] ++ encs e16 zs = S := by rw [← HS.out]; unfold wrS; rw [k2]; rfl
      obtain rfl : E = 0 := by rw [← HE.out]; unfold wrE; rw [k2]; rfl
      have K4 := hide k4
      clear k2 k3 k4
      go_wp2
      go_ret2
      exact ⟨rfl, K4.out⟩
end Go.Proofs.YtncmkiejamkklaaDoor
