/-
  What the reference's Encode, Units and Wide (chapter 4) answer.
-/
import Derived.Test.YtncmkiejamkklaaDoorU4ROne
import Derived.Test.YtncmkiejamkklaaDoorU4Enc
import Derived.Lib.AppendStr
import Derived.Laws.Concat
namespace Go.Proofs.YtncmkiejamkklaaDoor
open Go.RowKit

theorem strCells_bytes (ys : List UInt8) : Lib.strCells ⟨ys.toArray⟩ = ys.map bcell := by
  simp [Lib.strCells, bcell]
theorem size_mk' (ys : List UInt8) : (⟨ys.toArray⟩ : ByteArray).size = ys.length := by
  rw [Lib.size_eq]

theorem runit_any (u Q M : Nat) (w : World) (h : u ≤ 65535) (hQ : u / 256 = Q) (hM : u % 256 = M) :
    Calls Tryd.prog 40 #[.int .i64 u] w fun e w' => e = .returned (.string ⟨#[bt Q, bt M]⟩) ∧ Below w.heap.size w w' := by
  have h1 : (u : Int) ≤ 65535 := by omega
  have e1 : (u : Int) / 256 = (Q : Int) := by omega
  have e2 : (u : Int) % 256 = (M : Int) := by omega
  have q1 : (Q : Int) ≤ 255 := by omega
  have m1 : (M : Int) ≤ 255 := by omega
  have hr := fun w => lit_text w #[.int .u8 (Q : Int), .int .u8 (M : Int)] [bt Q, bt M] 2 rfl (by rw [bcell_bt Q (by omega) _ rfl, bcell_bt M (by omega) _ rfl]; rfl)
  clear h hQ hM
  generalize bt Q = b0 at *
  generalize bt M = b1 at *
  go_enter Tryd.func40, Tryd.ntmps40
  go_wp2
  go_ret
  exact ⟨rfl, (Below.refl _ _).alloc (Nat.le_refl _) _⟩
set_option maxRecDepth 100000 in
theorem units_lo (c : Nat) (w : World) (h : c ≤ 65535) :
    Calls Tryd.prog 35 #[.int .i64 c] w fun e w' => e = .returned (.string ⟨#[bt (c / 256), bt (c % 256)]⟩) ∧ Below w.heap.size w w' := by
  have h1 : (c : Int) < 65536 := by omega
  have CU := hide (fun w => runit_any c _ _ w h rfl rfl)
  clear h
  generalize bt (c / 256) = b0 at *
  generalize bt (c % 256) = b1 at *
  go_enter Tryd.func35, Tryd.ntmps35
  go_wp2_with (go_at_call 40; refine (CU.out _).mono ?_; rintro e w1 ⟨rfl, hb1⟩)
  go_ret
  exact ⟨rfl, hb1⟩
set_option maxRecDepth 100000 in
theorem units_hi (c a H L : Nat) (w : World) (h : c ≤ 1114111) (ha : c = 65536 + a) (hH : a / 1024 = H) (hL : a % 1024 = L) :
    Calls Tryd.prog 35 #[.int .i64 c] w fun e w' => e = .returned (.string ⟨#[bt ((55296 + H) / 256), bt ((55296 + H) % 256), bt ((56320 + L) / 256), bt ((56320 + L) % 256)]⟩) ∧ Below w.heap.size w w' := by
  have h1 : ¬ (c : Int) ≤ 65535 := by omega
  have h1' : ¬ (c : Int) < 65536 := by omega
  have h2 : (c : Int) ≤ 1114111 := by omega
  have e0 : (c : Int) - 65536 = (a : Int) := by omega
  have a1 : (a : Int) ≤ 1048575 := by omega
  have e1 : (a : Int) / 1024 = (H : Int) := by omega
  have e2 : (a : Int) % 1024 = (L : Int) := by omega
  have q1 : (H : Int) ≤ 1023 := by omega
  have m1 : (L : Int) ≤ 1023 := by omega
  have CU : Hid (∀ (x : Int) w, (x = 55296 + (H : Int)) → Calls Tryd.prog 40 #[.int .i64 x] w fun e w' => e = .returned (.string ⟨#[bt ((55296 + H) / 256), bt ((55296 + H) % 256)]⟩) ∧ Below w.heap.size w w') := by
    intro x w hx
    obtain rfl : x = ((55296 + H : Nat) : Int) := by omega
    exact runit_any (55296 + H) _ _ w (by omega) rfl rfl
  have CL : Hid (∀ (x : Int) w, (x = 56320 + (L : Int)) → Calls Tryd.prog 40 #[.int .i64 x] w fun e w' => e = .returned (.string ⟨#[bt ((56320 + L) / 256), bt ((56320 + L) % 256)]⟩) ∧ Below w.heap.size w w') := by
    intro x w hx
    obtain rfl : x = ((56320 + L : Nat) : Int) := by omega
    exact runit_any (56320 + L) _ _ w (by omega) rfl rfl
  clear h ha hH hL
  generalize bt ((55296 + H) / 256) = b0 at *
  generalize bt ((55296 + H) % 256) = b1 at *
  generalize bt ((56320 + L) / 256) = b2 at *
  generalize bt ((56320 + L) % 256) = b3 at *
  have hs := fun (w : World) => run_string_add_lists (P := Tryd.prog) (w := w) [b0, b1] [b2, b3] (by simp) (by simp)
  simp only [List.cons_append, List.nil_append] at hs
  go_enter Tryd.func35, Tryd.ntmps35
  go_wp2_with fail
  refine (CU.out _ _ (by rfl)).mono ?_
  rintro e w1 ⟨rfl, hb1⟩
  go_wp2_with fail
  refine (CL.out _ _ (by rfl)).mono ?_
  rintro e w2 ⟨rfl, hb2⟩
  go_wp2
  go_ret
  exact ⟨rfl, hb1.trans (hb2.mono hb1.size)⟩
theorem units_any (c : Nat) (w : World) (h : c ≤ 1114111) :
    Calls Tryd.prog 35 #[.int .i64 c] w fun e w' => e = .returned (.string ⟨(e16 c).toArray⟩) ∧ Below w.heap.size w w' := by
  unfold e16
  by_cases c1 : c < 65536
  · rw [if_pos c1]; exact units_lo c w (by omega)
  · rw [if_neg c1]; exact units_hi c (c - 65536) _ _ w h (by omega) rfl rfl

set_option maxRecDepth 100000 in
set_option maxHeartbeats 1000000 in
theorem rencode_core (a : Option Addr) (len cap : Nat) (zs : List Int) (w : World) (hl : zs.length = len) (h4 : len ≤ 65536) (hL : Lst w a zs) (S : List UInt8) (E : Nat) (hS : wrS e8 [] zs = S) (hE : wrE zs = E) :
    Calls Tryd.prog 15 #[.slice a len cap] w fun e w' => e = .returned (.tuple #[.string ⟨S.toArray⟩, .int .i64 E]) ∧ Below w.heap.size w w' := by
  have HL := hide hL
  have Hl := hide hl
  have H4 := hide h4
  have h5 : (len : Int) ≤ 65536 := by omega
  have HS := hide hS
  have HE := hide hE
  obtain ⟨i0, hi, hz0, hz1, hz2⟩ := info_parts info_u8
  have HI := hide hi
  have HI0 := hide hz0
  have HI1 := hide hz1
  have HI2 := hide hz2
  clear hi hz0 hz1 hz2 hL hl hS hE h4
  go_enter Tryd.func15, Tryd.ntmps15
  go_wp2_with fail
  go_loopw [4, 5] (fun vt vi wr => ∃ k : Nat, vi = .int .i64 k ∧ Hid (k ≤ len ∧ (zs.take k).all isP = true ∧ BRow wr w.heap.size vt (encs e8 (zs.take k)) ∧ Below w.heap.size w wr)) (fun _ vi _ => len - (intOf vi).toNat)
  case atStart => exact ⟨0, rfl, hide ⟨by omega, by simp, by simpa [encs] using BRow.nil _ _, Below.refl _ _⟩⟩
  case round =>
    obtain ⟨k, rfl, HK⟩ := hrel
    obtain ⟨k1, k2, k3, k4⟩ := HK.out
    clear HK
    by_cases hlt : k < len
    · have hlt' : (k : Int) < (len : Int) := by omega
      have hl := Hl.out
      rcases HL.out with hz | ⟨b, off, rfl, hb, hcell⟩
      · rw [hz] at hl; simp at hl; omega
      have hc : wr.cell? ⟨b, off + k, none⟩ = some (.int .i64 (zs.getD k 0)) := by
        rw [k4.cell (p := ⟨b, off + k, none⟩) hb]; exact hcell k (by omega)
      have hbad := all_bad zs k (by omega)
      have htk := take_snoc zs k (by omega)
      have hel := (encs_len code8 (zs.take k)).2
      rw [List.length_take] at hel
      generalize zs.getD k 0 = z at *
      have K3 := hide k3
      have K4 := hide k4
      have K2 := hide k2
      cases hp : isP z
      · have e1 := hbad hp
        obtain rfl : S = [] := by rw [← HS.out]; unfold wrS; rw [e1]; rfl
        obtain rfl : E = 40 := by rw [← HE.out]; unfold wrE; rw [e1]; rfl
        clear hbad htk hel k3 k4 k2 hcell hl HS HE e1
        go_wp2_with (go_at_call 28; refine (is_any _ _).mono ?_; rintro e w1 ⟨rfl, rfl⟩)
        go_ret2
        exact ⟨rfl, K4.out⟩
      · have hz := isP_t.1 hp
        obtain ⟨c, rfl⟩ : ∃ c : Nat, z = (c : Int) := ⟨z.toNat, by omega⟩
        have c1 : (c : Int) ≤ 1114111 := by omega
        have HT := hide (show encs e8 (zs.take (k + 1)) = encs e8 (zs.take k) ++ e8 c by rw [htk, encs_snoc]; rfl)
        have HA := hide (show (zs.take (k + 1)).all isP = true by rw [htk, List.all_append, K2.out]; simp [hp])
        have CO := hide (fun w => one_any c w (by omega))
        have HEL := hide (show (encs e8 (zs.take k)).length + (⟨(e8 c).toArray⟩ : ByteArray).size ≤ 300000 by rw [size_mk']; have := (code8.len c).2; have := H4.out; omega)
        clear hbad htk hel k3 k4 k2 hcell hl hz
        go_wp2_with (first
          | (go_at_call 28; refine (is_any _ _).mono ?_; rintro e w1 ⟨rfl, rfl⟩)
          | (go_at_call 29; refine (CO.out _).mono ?_; rintro e w2 ⟨rfl, hb2⟩)
          | (at_builtin; refine Lib.wpList_append_own_string _ rfl _ _ 52 9 rfl w.heap.size 5 i0 Tryd.underlying52 Tryd.underlying9 HI.out HI0.out HI1.out HI2.out _ _ _ rfl (own_below K3.out K4.out hb2) ⟨(e8 c).toArray⟩ rfl ?d1 ?d2 ?d3 ?_))
        case d1 => have := HEL.out; unfold maxLen; omega
        case d2 => have := HEL.out; omega
        case d3 => exact Nat.le_trans K4.out.size hb2.size
        intro v3 w3 hown3 hgrow3 _
        have HB2 := hide (K4.out.trans (hb2.mono K4.out.size))
        have HB3 := hide (show Below w.heap.size w w3 from HB2.out.grown hgrow3 HB2.out.size (fun k hk => (World.ownsRow.lt K3.out k hk).1))
        have HO3 := hide (show BRow w3 w.heap.size v3 (encs e8 (zs.take (k + 1))) by
          rw [HT.out]
          unfold BRow
          rw [strCells_bytes] at hown3
          rw [List.map_append, List.length_append]
          exact hown3)
        clear hown3 hgrow3 hb2
        go_wp2
        go_roundw
        case rel => exact ⟨k + 1, by go_num, hide ⟨by omega, HA.out, HO3.out, HB3.out⟩⟩
        case measure => simp [intOf]; omega
    · have hlt' : ¬ (k : Int) < (len : Int) := by omega
      rw [List.take_of_length_le (by have := Hl.out; omega)] at k2 k3
      have hcv := k3.text
      obtain rfl : encs e8 zs = S := by rw [← HS.out]; unfold wrS; rw [k2]; rfl
      obtain rfl : E = 0 := by rw [← HE.out]; unfold wrE; rw [k2]; rfl
      have K4 := hide k4
      clear k2 k3 k4
      go_wp2
      go_ret2
      exact ⟨rfl, K4.out⟩
end Go.Proofs.YtncmkiejamkklaaDoor
