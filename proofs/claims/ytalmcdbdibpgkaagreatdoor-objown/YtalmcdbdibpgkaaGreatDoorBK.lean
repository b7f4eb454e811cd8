/-
  Joined: O5Nx, O5Pu, O5Pv, O5Cod.
-/
import Derived.Test.YtalmcdbdibpgkaaGreatDoorBC
import Derived.Deep.RegionHeld3
import Derived.RegionDies
import Derived.Test.YtalmcdbdibpgkaaGreatDoorBL
import Derived.Lib.ConvBytes
import Derived.Laws.Strings3
import Derived.Test.YtalmcdbdibpgkaaGreatDoorBE
import Derived.Test.YtalmcdbdibpgkaaGreatDoorShelfB
import Derived.Shelf.Strconv.ToError
import Derived.Shelf.Strconv.ToErrorRange
/-
  What the landed nextByte answers: a byte, or it gives up.
-/
namespace Go.Proofs.YtalmcdbdibpgkaaGreatDoor
open Go.RowKit Go.Deep

theorem But.drew {b : Nat} {w w' : World} (h : But b w w') : But b w w'.drew := ⟨h.os, h.tape, h.output, h.size, h.block⟩
theorem RAt.drew {w : World} {b : Nat} {s : ByteArray} {a : Nat} {l : Int} (h : RAt w b s a l) : RAt w.drew b s a l := h
theorem must_f (w : World) : Calls Tryz.prog 40 #[.bool false] w fun e w' => e = thrown ∧ w' = w := (must_any false w).mono fun _ _ h => ⟨by simpa using h.1, h.2⟩
set_option maxRecDepth 8000 in
set_option maxHeartbeats 1000000 in
theorem next_ok (b : Nat) (s : ByteArray) (a : Nat) (l : Int) (w : World) (h : RAt w b s a l) (hs : s.size ≤ 16777216) (ha : a < s.size) :
    Calls Tryz.prog 72 #[.pointer (some ⟨b, 0, none⟩)] w fun e w' => e = .returned (.int .u8 (s[a].toNat : Int)) ∧ But b w w' ∧ RAt w' b s (a + 1) l := by
  obtain ⟨⟨c0, c1, c2⟩, z0, z1, z2⟩ := h.three
  have HR := hide h
  have CM := hide (must_t)
  have g1 : (a : Int) < (s.size : Int) := by omega
  have g0 : (0 : Int) ≤ (a : Int) := by omega
  have g2 : (s.size : Int) ≤ 16777216 := by omega
  have g3 : decide (a < s.size) = true := by simpa using ha
  clear h hs
  go_enter Tryz.func72, Tryz.ntmps72
  go_wp2_with fail
  go_region_held3 (fun x => x.cell? ⟨b, 0, none⟩ = some (.string s) ∧ x.cell? ⟨b, 1, none⟩ = some (.int .i64 a)) (go_keep) ((first | (go_at_call 40; refine (CM.out _).mono ?_; rintro e wy ⟨rfl, hy⟩; subst wy)))
  go_wp2_with fail
  go_region_held3 (fun x => x.cell? ⟨b, 0, none⟩ = some (.string s) ∧ x.cell? ⟨b, 1, none⟩ = some (.int .i64 a)) (go_keep) ((fail))
  go_wp2_with fail
  go_ret
  exact ⟨rfl, (But.setCell b _ 1 _).drew.drew, RAt.at1 HR.out (a + 1)⟩
set_option maxRecDepth 8000 in
set_option maxHeartbeats 1000000 in
theorem next_bad (b : Nat) (s : ByteArray) (a : Nat) (l : Int) (w : World) (h : RAt w b s a l) (hs : s.size ≤ 16777216) (ha : ¬ a < s.size) :
    Calls Tryz.prog 72 #[.pointer (some ⟨b, 0, none⟩)] w fun e w' => e = thrown ∧ But b w w' := by
  obtain ⟨⟨c0, c1, c2⟩, z0, z1, z2⟩ := h.three
  have CM := hide (must_f)
  have g2 : (s.size : Int) ≤ 16777216 := by omega
  have g3 : decide (a < s.size) = false := by simpa using ha
  clear h hs
  go_enter Tryz.func72, Tryz.ntmps72
  go_wp2_with fail
  go_region_dies
  all_goals
    go_at_call 40
    refine (CM.out _).mono ?_
    rintro e wy ⟨rfl, hy⟩
    subst wy
    exact ⟨rfl, rfl, (But.refl _ _).drew⟩
end Go.Proofs.YtalmcdbdibpgkaaGreatDoor
/-
  What strconv.ParseUint answers at the bases 16 and 8, of eight bits: the number, or an error.
-/
namespace Go.Proofs.YtalmcdbdibpgkaaGreatDoor
open Go.RowKit Go.Deep

def low (c : Nat) : Nat := c ||| 32
theorem low_bits : ∀ n : Fin 256, bits BinOp.or IntKind.u8 (n.val : Int) 32 = ((low n.val : Nat) : Int) := by decide +kernel
theorem low_lt : ∀ n : Fin 256, low n.val < 256 := by decide +kernel
theorem lower_any (c : Nat) (hc : c < 256) (w : World) : Calls Tryz.prog 127 #[.int .u8 (c : Int)] w fun e w' => e = .returned (.int .u8 ((low c : Nat) : Int)) ∧ w' = w := by
  have hb := low_bits ⟨c, hc⟩
  simp only at hb
  go_enter Tryz.func127, Tryz.ntmps127
  go_wp2
  go_ret
  exact ⟨rfl, rfl⟩
/- a digit, whatever the base -/
def dgV (c : Nat) : Nat := if 48 ≤ c ∧ c ≤ 57 then c - 48 else if 97 ≤ low c ∧ low c ≤ 122 then low c - 87 else 255
def puR (B : Nat) : List UInt8 → Nat → Option Nat
  | [], n => some n
  | c :: l, n => if dgV c.toNat < B ∧ n * B + dgV c.toNat ≤ 255 then puR B l (n * B + dgV c.toNat) else none
def PuE (R : Option Nat) (e : Ending) : Prop := match R with
  | some n => e = .returned (.tuple #[.int .u64 (n : Int), .nilIface])
  | none => ∃ v k, e = .returned (.tuple #[v, .iface 110 (.int .i64 k)]) ∧ (k = 1 ∨ k = 2)
set_option maxRecDepth 8000 in
set_option maxHeartbeats 2000000 in
theorem ipu16 (t : ByteArray) (hne : t.size ≠ 0) (hmax : t.size ≤ 1000) (w : World) :
    Calls Tryz.prog 105 #[.string t, .int .i64 16, .int .i64 8] w fun e w' => PuE (puR 16 t.data.toList 0) e ∧ Below w.heap.size w w' := by
  have hemp : t.toList.isEmpty = false := by
    rw [← decide_eq_emptyBytes]
    exact decide_eq_false (fun h => hne (by rw [h]; rfl))
  have hcv := Lib.run_convert_string_bytes (P := Tryz.prog) w 9 43 5 t (u := .string) Tryz.underlying9 Tryz.underlying43 Tryz.underlying5
  have hB : ∀ j, j < t.size → (Lib.bytesWorld w 5 t).cell? ⟨w.heap.size, j, none⟩ = some (.int .u8 (t.data.toList.getD j 0).toNat) := fun j hj => Lib.bytesWorld_cell w 5 t j hj
  have hbw : Below w.heap.size w (Lib.bytesWorld w 5 t) := ⟨rfl, rfl, rfl, by rw [Lib.bytesWorld_size]; omega, fun k hk => Lib.bytesWorld_at_old w _ t k hk⟩
  obtain ⟨W1, hW1⟩ : ∃ W1, W1 = Lib.bytesWorld w 5 t := ⟨_, rfl⟩
  rw [← hW1] at hcv hB hbw
  have HB := hide hB
  have HW := hide hbw
  obtain ⟨R, hR⟩ : ∃ R, puR 16 t.data.toList 0 = R := ⟨_, rfl⟩
  rw [hR]
  have HRR := hide hR
  have hmv : IntKind.u64.wrap (IntKind.u64.wrap 256 - 1) = 255 := by
    rw [IntKind.wrap_u64, IntKind.wrap_u64]
    decide
  have CL := hide (fun c hc w => lower_any c hc w)
  have hsz : (t.size : Int) ≤ 1000 := by omega
  clear hW1 hR hbw hB hmax
  go_enter Tryz.func105, Tryz.ntmps105
  go_wp2
  go_loop [12, 13, 101] (fun vu vn vi => ∃ (k acc : Nat) (a : Int), vu = .bool false ∧ vn = .int .u64 a ∧ vi = .int .i64 k ∧ Hid (k ≤ t.size ∧ a = (acc : Int) ∧ acc ≤ 255 ∧ puR 16 (t.data.toList.drop k) acc = R)) (fun _ _ vi => t.size - (intOf vi).toNat)
  case atStart => exact ⟨0, 0, 0, rfl, rfl, rfl, hide ⟨by omega, rfl, by omega, HRR.out⟩⟩
  case round =>
    obtain ⟨k, acc, a, rfl, rfl, rfl, HH⟩ := hrel
    obtain ⟨hk, haa, hacc, hd⟩ := HH.out
    clear HH
    have a1 : a ≤ 255 := by omega
    have a0 : (0 : Int) ≤ a := by omega
    have k0 : (0 : Int) ≤ (k : Int) := by omega
    by_cases hkn : k < t.size
    · have hc := HB.out k hkn
      have hget : t.data.toList.getD k 0 = t[k] := by rw [List.getD_eq_getElem?_getD, get_at t k hkn]; rfl
      rw [hget] at hc
      rw [drop_at t k hkn, puR] at hd
      generalize t[k] = c at hc hd
      have hc256 := c.toNat_lt
      have c0 : (0 : Int) ≤ (c.toNat : Int) := by omega
      have c1 : (c.toNat : Int) ≤ 255 := by omega
      have hlw := low_lt ⟨c.toNat, hc256⟩
      simp only at hlw
      have CL1 := hide (fun w => CL.out c.toNat hc256 w)
      clear hget hc256
      obtain ⟨D, hD⟩ : ∃ D, dgV c.toNat = D := ⟨_, rfl⟩
      rw [hD] at hd
      have h95 : ((c.toNat : Int) == 95) = true ∨ ((c.toNat : Int) == 95) = false := by cases ((c.toNat : Int) == 95) <;> simp
      by_cases hdig : 48 ≤ c.toNat ∧ c.toNat ≤ 57
      · have i0 : (48 : Int) ≤ (c.toNat : Int) := by omega
        have i1 : (c.toNat : Int) ≤ 57 := by omega
        have i2 : ((c.toNat : Int) == 95) = false := by rw [beq_eq_false_iff_ne]; omega
        have hD' : (c.toNat : Int) - 48 = (D : Int) := by unfold dgV at hD; rw [if_pos hdig] at hD; omega
        by_cases hlt : D < 16
        · have j0 : (c.toNat : Int) - 48 < 16 := by omega
          by_cases hov : acc * 16 + D ≤ 255
          · rw [if_pos ⟨hlt, hov⟩] at hd
            have j1 : a * 16 + ((c.toNat : Int) - 48) ≤ 255 := by omega
            have HN : Hid (a * 16 + ((c.toNat : Int) - 48) = ((acc * 16 + D : Nat) : Int) ∧ acc * 16 + D ≤ 255 ∧ puR 16 (t.data.toList.drop (k + 1)) (acc * 16 + D) = R) := hide ⟨by omega, hov, hd⟩
            clear hd hov hlt hdig hD hD' h95 hacc haa hk hlw CL1
            go_wp2
            refine ⟨⟨k + 1, acc * 16 + D, a * 16 + ((c.toNat : Int) - 48), rfl, by first | rfl | (congr 1; omega), by go_num, hide ⟨by omega, HN.out⟩⟩, by simp [intOf]; omega⟩
          · rw [if_neg (fun h => hov h.2)] at hd
            subst hd
            have j1 : 255 < a * 16 + ((c.toNat : Int) - 48) := by omega
            clear hov hlt hdig hD hD' h95 hacc haa hk hlw CL1
            go_wp2
            go_ret2
            exact ⟨⟨_, 1, rfl, Or.inl rfl⟩, HW.out⟩
        · rw [if_neg (fun h => hlt h.1)] at hd
          subst hd
          have j0 : ¬ (c.toNat : Int) - 48 < 16 := by omega
          exfalso; omega
      · have hnd : decide ((48 : Int) ≤ (c.toNat : Int)) = false ∨ (decide ((48 : Int) ≤ (c.toNat : Int)) = true ∧ decide ((c.toNat : Int) ≤ 57) = false) := by
          by_cases h : 48 ≤ c.toNat
          · exact Or.inr ⟨by simp; omega, by simp; omega⟩
          · exact Or.inl (by simp; omega)
        by_cases hlet : 97 ≤ low c.toNat ∧ low c.toNat ≤ 122
        · have l0 : (97 : Int) ≤ (low c.toNat : Int) := by omega
          have l1 : (low c.toNat : Int) ≤ 122 := by omega
          have hD' : (low c.toNat : Int) - 97 + 10 = (D : Int) := by unfold dgV at hD; rw [if_neg hdig, if_pos hlet] at hD; omega
          generalize low c.toNat = lc at CL1 l0 l1 hD' hlw
          by_cases hlt : D < 16
          · have j0 : (lc : Int) - 97 + 10 < 16 := by omega
            by_cases hov : acc * 16 + D ≤ 255
            · rw [if_pos ⟨hlt, hov⟩] at hd
              have j1 : a * 16 + ((lc : Int) - 97 + 10) ≤ 255 := by omega
              have HN : Hid (a * 16 + ((lc : Int) - 97 + 10) = ((acc * 16 + D : Nat) : Int) ∧ acc * 16 + D ≤ 255 ∧ puR 16 (t.data.toList.drop (k + 1)) (acc * 16 + D) = R) := hide ⟨by omega, hov, hd⟩
              clear hd hov hlt hdig hD hD' hacc haa hk hlw hlet
              rcases h95 with h95 | h95 <;> rcases hnd with n1 | ⟨n1, n2⟩
              all_goals
                go_wp2_with (go_at_call 127; refine (CL1.out _).mono ?_; rintro e w' ⟨rfl, rfl⟩)
                refine ⟨⟨k + 1, acc * 16 + D, a * 16 + ((lc : Int) - 97 + 10), rfl, by first | rfl | (congr 1; omega), by go_num, hide ⟨by omega, HN.out⟩⟩, by simp [intOf]; omega⟩
            · rw [if_neg (fun h => hov h.2)] at hd
              subst hd
              have j1 : 255 < a * 16 + ((lc : Int) - 97 + 10) := by omega
              clear hov hlt hdig hD hD' hacc haa hk hlw hlet
              rcases h95 with h95 | h95 <;> rcases hnd with n1 | ⟨n1, n2⟩
              all_goals
                go_wp2_with (go_at_call 127; refine (CL1.out _).mono ?_; rintro e w' ⟨rfl, rfl⟩)
                go_ret2
                exact ⟨⟨_, 1, rfl, Or.inl rfl⟩, HW.out⟩
          · rw [if_neg (fun h => hlt h.1)] at hd
            subst hd
            have j0 : ¬ (lc : Int) - 97 + 10 < 16 := by omega
            clear hlt hdig hD hD' hacc haa hk hlw hlet
            rcases h95 with h95 | h95 <;> rcases hnd with n1 | ⟨n1, n2⟩
            all_goals
              go_wp2_with (go_at_call 127; refine (CL1.out _).mono ?_; rintro e w' ⟨rfl, rfl⟩)
              go_ret2
              exact ⟨⟨_, 2, rfl, Or.inr rfl⟩, HW.out⟩
        · have hD' : D = 255 := by unfold dgV at hD; rw [if_neg hdig, if_neg hlet] at hD; exact hD.symm
          rw [if_neg (fun h => by omega)] at hd
          subst hd
          have hnl : decide ((97 : Int) ≤ (low c.toNat : Int)) = false ∨ (decide ((97 : Int) ≤ (low c.toNat : Int)) = true ∧ decide ((low c.toNat : Int) ≤ 122) = false) := by
            by_cases h : 97 ≤ low c.toNat
            · exact Or.inr ⟨by simp; omega, by simp; omega⟩
            · exact Or.inl (by simp; omega)
          generalize low c.toNat = lc at CL1 hnl hlw
          clear hdig hD hD' hacc haa hk hlet
          rcases h95 with h95 | h95 <;> rcases hnd with n1 | ⟨n1, n2⟩ <;> rcases hnl with m1 | ⟨m1, m2⟩
          all_goals
            go_wp2_with (go_at_call 127; refine (CL1.out _).mono ?_; rintro e w' ⟨rfl, rfl⟩)
            go_ret2
            exact ⟨⟨_, 2, rfl, Or.inr rfl⟩, HW.out⟩
    · rw [List.drop_eq_nil_of_le (by rw [← Lib.size_eq]; omega), puR] at hd
      subst hd
      subst haa
      clear hacc hk
      go_wp2
      go_ret2
      exact ⟨rfl, HW.out⟩
end Go.Proofs.YtalmcdbdibpgkaaGreatDoor
/-
  The same at the base 8.
-/
namespace Go.Proofs.YtalmcdbdibpgkaaGreatDoor
open Go.RowKit Go.Deep

set_option maxRecDepth 8000 in
set_option maxHeartbeats 2000000 in
theorem ipu8 (t : ByteArray) (hne : t.size ≠ 0) (hmax : t.size ≤ 1000) (w : World) :
    Calls Tryz.prog 105 #[.string t, .int .i64 8, .int .i64 8] w fun e w' => PuE (puR 8 t.data.toList 0) e ∧ Below w.heap.size w w' := by
  have hemp : t.toList.isEmpty = false := by
    rw [← decide_eq_emptyBytes]
    exact decide_eq_false (fun h => hne (by rw [h]; rfl))
  have hcv := Lib.run_convert_string_bytes (P := Tryz.prog) w 9 43 5 t (u := .string) Tryz.underlying9 Tryz.underlying43 Tryz.underlying5
  have hB : ∀ j, j < t.size → (Lib.bytesWorld w 5 t).cell? ⟨w.heap.size, j, none⟩ = some (.int .u8 (t.data.toList.getD j 0).toNat) := fun j hj => Lib.bytesWorld_cell w 5 t j hj
  have hbw : Below w.heap.size w (Lib.bytesWorld w 5 t) := ⟨rfl, rfl, rfl, by rw [Lib.bytesWorld_size]; omega, fun k hk => Lib.bytesWorld_at_old w _ t k hk⟩
  obtain ⟨W1, hW1⟩ : ∃ W1, W1 = Lib.bytesWorld w 5 t := ⟨_, rfl⟩
  rw [← hW1] at hcv hB hbw
  have HB := hide hB
  have HW := hide hbw
  obtain ⟨R, hR⟩ : ∃ R, puR 8 t.data.toList 0 = R := ⟨_, rfl⟩
  rw [hR]
  have HRR := hide hR
  have hmv : IntKind.u64.wrap (IntKind.u64.wrap 256 - 1) = 255 := by
    rw [IntKind.wrap_u64, IntKind.wrap_u64]
    decide
  have CL := hide (fun c hc w => lower_any c hc w)
  have hsz : (t.size : Int) ≤ 1000 := by omega
  clear hW1 hR hbw hB hmax
  go_enter Tryz.func105, Tryz.ntmps105
  go_wp2
  go_loop [12, 13, 101] (fun vu vn vi => ∃ (k acc : Nat) (a : Int), vu = .bool false ∧ vn = .int .u64 a ∧ vi = .int .i64 k ∧ Hid (k ≤ t.size ∧ a = (acc : Int) ∧ acc ≤ 255 ∧ puR 8 (t.data.toList.drop k) acc = R)) (fun _ _ vi => t.size - (intOf vi).toNat)
  case atStart => exact ⟨0, 0, 0, rfl, rfl, rfl, hide ⟨by omega, rfl, by omega, HRR.out⟩⟩
  case round =>
    obtain ⟨k, acc, a, rfl, rfl, rfl, HH⟩ := hrel
    obtain ⟨hk, haa, hacc, hd⟩ := HH.out
    clear HH
    have a1 : a ≤ 255 := by omega
    have a0 : (0 : Int) ≤ a := by omega
    have k0 : (0 : Int) ≤ (k : Int) := by omega
    by_cases hkn : k < t.size
    · have hc := HB.out k hkn
      have hget : t.data.toList.getD k 0 = t[k] := by rw [List.getD_eq_getElem?_getD, get_at t k hkn]; rfl
      rw [hget] at hc
      rw [drop_at t k hkn, puR] at hd
      generalize t[k] = c at hc hd
      have hc256 := c.toNat_lt
      have c0 : (0 : Int) ≤ (c.toNat : Int) := by omega
      have c1 : (c.toNat : Int) ≤ 255 := by omega
      have hlw := low_lt ⟨c.toNat, hc256⟩
      simp only at hlw
      have CL1 := hide (fun w => CL.out c.toNat hc256 w)
      clear hget hc256
      obtain ⟨D, hD⟩ : ∃ D, dgV c.toNat = D := ⟨_, rfl⟩
      rw [hD] at hd
      have h95 : ((c.toNat : Int) == 95) = true ∨ ((c.toNat : Int) == 95) = false := by cases ((c.toNat : Int) == 95) <;> simp
      by_cases hdig : 48 ≤ c.toNat ∧ c.toNat ≤ 57
      · have i0 : (48 : Int) ≤ (c.toNat : Int) := by omega
        have i1 : (c.toNat : Int) ≤ 57 := by omega
        have i2 : ((c.toNat : Int) == 95) = false := by rw [beq_eq_false_iff_ne]; omega
        have hD' : (c.toNat : Int) - 48 = (D : Int) := by unfold dgV at hD; rw [if_pos hdig] at hD; omega
        by_cases hlt : D < 8
        · have j0 : (c.toNat : Int) - 48 < 8 := by omega
          by_cases hov : acc * 8 + D ≤ 255
          · rw [if_pos ⟨hlt, hov⟩] at hd
            have j1 : a * 8 + ((c.toNat : Int) - 48) ≤ 255 := by omega
            have HN : Hid (a * 8 + ((c.toNat : Int) - 48) = ((acc * 8 + D : Nat) : Int) ∧ acc * 8 + D ≤ 255 ∧ puR 8 (t.data.toList.drop (k + 1)) (acc * 8 + D) = R) := hide ⟨by omega, hov, hd⟩
            clear hd hov hlt hdig hD hD' h95 hacc haa hk hlw CL1
            go_wp2
            refine ⟨⟨k + 1, acc * 8 + D, a * 8 + ((c.toNat : Int) - 48), rfl, by first | rfl | (congr 1; omega), by go_num, hide ⟨by omega, HN.out⟩⟩, by simp [intOf]; omega⟩
          · rw [if_neg (fun h => hov h.2)] at hd
            subst hd
            have j1 : 255 < a * 8 + ((c.toNat : Int) - 48) := by omega
            clear hov hlt hdig hD hD' h95 hacc haa hk hlw CL1
            go_wp2
            go_ret2
            exact ⟨⟨_, 1, rfl, Or.inl rfl⟩, HW.out⟩
        · rw [if_neg (fun h => hlt h.1)] at hd
          subst hd
          have j0 : ¬ (c.toNat : Int) - 48 < 8 := by omega
          clear hlt hdig hD hD' h95 hacc haa hk hlw CL1
          go_wp2
          go_ret2
          exact ⟨⟨_, 2, rfl, Or.inr rfl⟩, HW.out⟩
      · have hnd : decide ((48 : Int) ≤ (c.toNat : Int)) = false ∨ (decide ((48 : Int) ≤ (c.toNat : Int)) = true ∧ decide ((c.toNat : Int) ≤ 57) = false) := by
          by_cases h : 48 ≤ c.toNat
          · exact Or.inr ⟨by simp; omega, by simp; omega⟩
          · exact Or.inl (by simp; omega)
        by_cases hlet : 97 ≤ low c.toNat ∧ low c.toNat ≤ 122
        · have l0 : (97 : Int) ≤ (low c.toNat : Int) := by omega
          have l1 : (low c.toNat : Int) ≤ 122 := by omega
          have hD' : (low c.toNat : Int) - 97 + 10 = (D : Int) := by unfold dgV at hD; rw [if_neg hdig, if_pos hlet] at hD; omega
          generalize low c.toNat = lc at CL1 l0 l1 hD' hlw
          by_cases hlt : D < 8
          · exfalso; omega
          · rw [if_neg (fun h => hlt h.1)] at hd
            subst hd
            have j0 : ¬ (lc : Int) - 97 + 10 < 8 := by omega
            clear hlt hdig hD hD' hacc haa hk hlw hlet
            rcases h95 with h95 | h95 <;> rcases hnd with n1 | ⟨n1, n2⟩
            all_goals
              go_wp2_with (go_at_call 127; refine (CL1.out _).mono ?_; rintro e w' ⟨rfl, rfl⟩)
              go_ret2
              exact ⟨⟨_, 2, rfl, Or.inr rfl⟩, HW.out⟩
        · have hD' : D = 255 := by unfold dgV at hD; rw [if_neg hdig, if_neg hlet] at hD; exact hD.symm
          rw [if_neg (fun h => by omega)] at hd
          subst hd
          have hnl : decide ((97 : Int) ≤ (low c.toNat : Int)) = false ∨ (decide ((97 : Int) ≤ (low c.toNat : Int)) = true ∧ decide ((low c.toNat : Int) ≤ 122) = false) := by
            by_cases h : 97 ≤ low c.toNat
            · exact Or.inr ⟨by simp; omega, by simp; omega⟩
            · exact Or.inl (by simp; omega)
          generalize low c.toNat = lc at CL1 hnl hlw
          clear hdig hD hD' hacc haa hk hlet
          rcases h95 with h95 | h95 <;> rcases hnd with n1 | ⟨n1, n2⟩ <;> rcases hnl with m1 | ⟨m1, m2⟩
          all_goals
            go_wp2_with (go_at_call 127; refine (CL1.out _).mono ?_; rintro e w' ⟨rfl, rfl⟩)
            go_ret2
            exact ⟨⟨_, 2, rfl, Or.inr rfl⟩, HW.out⟩
    · rw [List.drop_eq_nil_of_le (by rw [← Lib.size_eq]; omega), puR] at hd
      subst hd
      subst haa
      clear hacc hk
      go_wp2
      go_ret2
      exact ⟨rfl, HW.out⟩
end Go.Proofs.YtalmcdbdibpgkaaGreatDoor
/-
  What strconv.ParseUint and the landed coded answer.
-/
namespace Go.Proofs.YtalmcdbdibpgkaaGreatDoor
open Go.RowKit Go.Deep

/- what the library's variables hold -/
structure Glo5 (w : World) : Prop where
  base : D2.Glo w
  syn : ∃ tp p, w.cell? ⟨laysC245_ren.g 15, 0, none⟩ = some (.iface tp p)
  rng : ∃ tp p, w.cell? ⟨laysC245_ren.g 16, 0, none⟩ = some (.iface tp p)
theorem Glo5.below {w w' : World} (h : Glo5 w) (hb : Below w.heap.size w w') : Glo5 w' := by
  obtain ⟨t, p, h1⟩ := h.syn
  obtain ⟨u, q, h2⟩ := h.rng
  exact ⟨h.base.below hb, ⟨t, p, by rw [hb.cell (D2.cell_lt h1)]; exact h1⟩, ⟨u, q, by rw [hb.cell (D2.cell_lt h2)]; exact h2⟩⟩
theorem toErr (s : ByteArray) (base : Int) (k : Int) (hk : k = 1 ∨ k = 2) (w : World) (hg : Glo5 w) (hs : s.size ≤ 1000) :
    Calls Tryz.prog 93 #[.string ⟨#[80, 97, 114, 115, 101, 85, 105, 110, 116]⟩, .string s, .int .i64 base, .int .i64 8, .iface 110 (.int .i64 k)] w fun e w' => (∃ tp p, e = .returned (.iface tp p)) ∧ Below w.heap.size w w' := by
  rcases hk with rfl | rfl
  · obtain ⟨tp, p, hv⟩ := hg.rng
    refine (Any.strconv_toError_range laysC245 ⟨#[80, 97, 114, 115, 101, 85, 105, 110, 116]⟩ s base 8 (.iface tp p) w (by omega) hv (Or.inr ⟨tp, p, rfl⟩)).mono ?_
    rintro e w' ⟨N, rfl, _, _, hb⟩
    exact ⟨⟨_, _, rfl⟩, hb⟩
  · obtain ⟨tp, p, hv⟩ := hg.syn
    refine (Any.strconv_toError_syntax laysC245 ⟨#[80, 97, 114, 115, 101, 85, 105, 110, 116]⟩ s base 8 (.iface tp p) w (by omega) hv (Or.inr ⟨tp, p, rfl⟩)).mono ?_
    rintro e w' ⟨N, rfl, _, _, hb⟩
    exact ⟨⟨_, _, rfl⟩, hb⟩
def CodR (b : Nat) (w : World) (s : ByteArray) (a : Nat) (l : Int) (R : Option Nat) (e : Ending) (w' : World) : Prop := match R with
  | some m => e = .returned (.int .u8 (m : Int)) ∧ But b w w' ∧ RAt w' b s a l
  | none => e = thrown ∧ But b w w'
def PuF (R : Option Nat) (e : Ending) : Prop := match R with
  | some n => e = .returned (.tuple #[.int .u64 (n : Int), .nilIface])
  | none => ∃ v tp p, e = .returned (.tuple #[v, .iface tp p])
/- a byte that is said by n digits -/
def codV (B n : Nat) (l : List UInt8) : Option Nat := if n ≤ l.length then puR B (l.take n) 0 else none
theorem puR_le (B : Nat) : ∀ (l : List UInt8) (n m : Nat), n ≤ 255 → puR B l n = some m → m ≤ 255
  | [], n, m, h, e => by simp only [puR, Option.some.injEq] at e; omega
  | c :: l, n, m, h, e => by
    rw [puR] at e
    split at e
    · rename_i hh; exact puR_le B l _ m hh.2 e
    · cases e
theorem codV_le {B n m : Nat} {l : List UInt8} (h : codV B n l = some m) : m ≤ 255 ∧ n ≤ l.length := by
  unfold codV at h
  split at h
  · rename_i hh; exact ⟨puR_le B _ 0 m (by omega) h, hh⟩
  · cases h
set_option maxRecDepth 8000 in
set_option maxHeartbeats 1000000 in
theorem pub16 (t : ByteArray) (hne : t.size ≠ 0) (hmax : t.size ≤ 1000) (w : World) (hg : Glo5 w) :
    Calls Tryz.prog 91 #[.string t, .int .i64 16, .int .i64 8] w fun e w' => PuF (puR 16 t.data.toList 0) e ∧ Below w.heap.size w w' := by
  have C := hide (ipu16 t hne hmax w)
  have CT := hide (fun k hk x (hx : Below w.heap.size w x) => toErr t 16 k hk x (hg.below hx) hmax)
  cases hR : puR 16 t.data.toList 0 with
  | some m =>
    rw [hR] at C
    unfold PuE at C
    clear hR hg hmax hne
    go_enter Tryz.func91, Tryz.ntmps91
    go_wp2_with (go_at_call 105; refine C.out.mono ?_; rintro e wy ⟨rfl, hy⟩)
    go_ret2
    exact ⟨rfl, hy⟩
  | none =>
    rw [hR] at C
    unfold PuE at C
    clear hR hg hmax hne
    go_enter Tryz.func91, Tryz.ntmps91
    go_wp2_with (first
      | (go_at_call 105; refine C.out.mono ?_; rintro e wy ⟨⟨v, k, rfl, hk⟩, hy⟩; have C2 := hide (CT.out k hk wy hy); have HY := hide hy; clear hy)
      | (go_at_call 93; refine C2.out.mono ?_; rintro e wz ⟨⟨tp, p, rfl⟩, hz⟩))
    go_ret2
    exact ⟨⟨_, _, _, rfl⟩, below_t5 HY.out hz⟩
set_option maxRecDepth 8000 in
set_option maxHeartbeats 1000000 in
theorem coded16_short (b : Nat) (s : ByteArray) (a : Nat) (l : Int) (w : World) (h : RAt w b s a l) (hs : s.size ≤ 16777216) (ha : a ≤ s.size) (hsh : s.size - a < 2) :
    Calls Tryz.prog 71 #[.pointer (some ⟨b, 0, none⟩), .int .i64 2, .int .i64 16] w fun e w' => e = thrown ∧ But b w w' := by
  obtain ⟨⟨c0, c1, c2⟩, z0, z1, z2⟩ := h.three
  have CM := hide (must_f)
  have g2 : (s.size : Int) ≤ 16777216 := by omega
  have g1 : (a : Int) ≤ (s.size : Int) := by omega
  have g0 : (0 : Int) ≤ (a : Int) := by omega
  obtain ⟨D, hD⟩ : ∃ D : Int, D = (s.size : Int) - (a : Int) := ⟨_, rfl⟩
  have gw : IntKind.i64.wrap ((s.size : Int) - (a : Int)) = D := by rw [IntKind.wrap_i64]; omega
  have g3 : decide ((2 : Int) ≤ D) = false := by rw [decide_eq_false_iff_not]; omega
  clear h hs ha hsh hD
  go_enter Tryz.func71, Tryz.ntmps71
  go_wp2_with fail
  go_region_dies
  all_goals
    go_at_call 40
    refine (CM.out _).mono ?_
    rintro e wy ⟨rfl, hy⟩
    subst wy
    exact ⟨rfl, rfl, (But.refl _ _).drew⟩
set_option maxRecDepth 8000 in
set_option maxHeartbeats 1000000 in
theorem coded16_long (b : Nat) (s : ByteArray) (a : Nat) (l : Int) (w : World) (h : RAt w b s a l) (hg : Glo5 w) (hs : s.size ≤ 16777216) (ha : a + 2 ≤ s.size) (R : Option Nat) (hR : puR 16 ((s.data.toList.drop a).take 2) 0 = R) :
    Calls Tryz.prog 71 #[.pointer (some ⟨b, 0, none⟩), .int .i64 2, .int .i64 16] w (CodR b w s (a + 2) l R) := by
  obtain ⟨⟨c0, c1, c2⟩, z0, z1, z2⟩ := h.three
  have HR := hide h
  have hx : (s.extract a (a + 2)).data.toList = (s.data.toList.drop a).take 2 := by rw [Lib.extract_data]; congr 1; omega
  have hxs : (s.extract a (a + 2)).size = 2 := by rw [Lib.size_eq, hx, List.length_take, List.length_drop, ← Lib.size_eq]; omega
  have CP := fun x (hx : Below w.heap.size w x) => pub16 (s.extract a (a + 2)) (by rw [hxs]; decide) (by rw [hxs]; decide) x (hg.below hx)
  rw [hx, hR] at CP
  obtain ⟨E, hE⟩ : ∃ E : Nat, E = a + 2 := ⟨_, rfl⟩
  rw [← hE] at CP hx hxs
  have HE := hide hE
  obtain ⟨t, hex⟩ : ∃ t, s.extract a E = t := ⟨_, rfl⟩
  rw [hex] at CP hx hxs
  have e1 : (a : Int) ≤ (E : Int) := by omega
  have e2 : (E : Int) ≤ (s.size : Int) := by omega
  have e0 : (0 : Int) ≤ (E : Int) := by omega
  have CM := hide (must_t)
  have CF := hide (must_f)
  have g2 : (s.size : Int) ≤ 16777216 := by omega
  have g1 : (a : Int) + 2 ≤ (s.size : Int) := by omega
  have g0 : (0 : Int) ≤ (a : Int) := by omega
  obtain ⟨D, hD⟩ : ∃ D : Int, D = (s.size : Int) - (a : Int) := ⟨_, rfl⟩
  have gw : IntKind.i64.wrap ((s.size : Int) - (a : Int)) = D := by rw [IntKind.wrap_i64]; omega
  have g3 : decide ((2 : Int) ≤ D) = true := by rw [decide_eq_true_iff]; omega
  have HPR := hide hR
  clear hD h hR hx hxs hg hs ha hE
  have CP := hide CP
  have gn : IntKind.i64.wrap ((a : Int) + 2) = (E : Int) := by rw [IntKind.wrap_i64, HE.out]; omega
  cases R with
  | some m =>
    have hm : (m : Int) ≤ 255 := by have := puR_le 16 _ 0 m (by omega) HPR.out; omega
    have hm0 : (0 : Int) ≤ (m : Int) := by omega
    unfold PuF at CP
    unfold CodR
    clear HPR
    go_enter Tryz.func71, Tryz.ntmps71
    go_wp2_with fail
    go_region_held3 (fun x => x.cell? ⟨b, 0, none⟩ = some (.string s) ∧ x.cell? ⟨b, 1, none⟩ = some (.int .i64 a)) (go_keep) ((first | (go_at_call 40; refine (CM.out _).mono ?_; rintro e wy ⟨rfl, hy⟩; subst wy)))
    go_wp2_with fail
    go_region_held3 (fun x => x.cell? ⟨b, 0, none⟩ = some (.string s) ∧ x.cell? ⟨b, 1, none⟩ = some (.int .i64 a)) (first | go_keep | exact ⟨(HRS.out.three).1.1, (HRS.out.three).1.2.1⟩) ((first | (go_at_call 91; refine (CP.out _ (Below.refl _ _).drew.drew).mono ?_; rintro e wy ⟨rfl, hy⟩; have HRS : Hid (RAt wy b s a l) := hide (RAt.below (w := w.drew.drew) HR.out hy); have HY : Hid (But b w wy) := hide ((((But.refl b w).drew).drew).trans (But.of_below hy)); clear hy)))
    obtain ⟨⟨d0, d1, d2⟩, y0, y1, y2⟩ := HRS.out.three
    clear c0 c1 c2 z0 z1 z2 gn
    go_wp2_with (go_at_call 40; refine (CM.out _).mono ?_; rintro e wz ⟨rfl, hz⟩; subst wz)
    go_ret
    exact ⟨rfl, HY.out.trans (But.setCell b _ 1 _), RAt.at1 HRS.out (a + 2)⟩
  | none =>
    unfold PuF at CP
    unfold CodR
    clear HPR
    go_enter Tryz.func71, Tryz.ntmps71
    go_wp2_with fail
    go_region_held3 (fun x => x.cell? ⟨b, 0, none⟩ = some (.string s) ∧ x.cell? ⟨b, 1, none⟩ = some (.int .i64 a)) (go_keep) ((first | (go_at_call 40; refine (CM.out _).mono ?_; rintro e wy ⟨rfl, hy⟩; subst wy)))
    go_wp2_with fail
    go_region_held3 (fun x => x.cell? ⟨b, 0, none⟩ = some (.string s) ∧ x.cell? ⟨b, 1, none⟩ = some (.int .i64 a)) (first | go_keep | exact ⟨(HRS.out.three).1.1, (HRS.out.three).1.2.1⟩) ((first | (go_at_call 91; refine (CP.out _ (Below.refl _ _).drew.drew).mono ?_; rintro e wy ⟨⟨v, tp, p, rfl⟩, hy⟩; have HRS : Hid (RAt wy b s a l) := hide (RAt.below (w := w.drew.drew) HR.out hy); have HY : Hid (But b w wy) := hide ((((But.refl b w).drew).drew).trans (But.of_below hy)); clear hy)))
    obtain ⟨⟨d0, d1, d2⟩, y0, y1, y2⟩ := HRS.out.three
    clear c0 c1 c2 z0 z1 z2 gn
    go_wp2_with (go_at_call 40; refine (CF.out _).mono ?_; rintro e wz ⟨rfl, hz⟩; subst wz)
    exact ⟨rfl, rfl, HY.out⟩
set_option maxRecDepth 8000 in
set_option maxHeartbeats 1000000 in
theorem pub8 (t : ByteArray) (hne : t.size ≠ 0) (hmax : t.size ≤ 1000) (w : World) (hg : Glo5 w) :
    Calls Tryz.prog 91 #[.string t, .int .i64 8, .int .i64 8] w fun e w' => PuF (puR 8 t.data.toList 0) e ∧ Below w.heap.size w w' := by
  have C := hide (ipu8 t hne hmax w)
  have CT := hide (fun k hk x (hx : Below w.heap.size w x) => toErr t 8 k hk x (hg.below hx) hmax)
  cases hR : puR 8 t.data.toList 0 with
  | some m =>
    rw [hR] at C
    unfold PuE at C
    clear hR hg hmax hne
    go_enter Tryz.func91, Tryz.ntmps91
    go_wp2_with (go_at_call 105; refine C.out.mono ?_; rintro e wy ⟨rfl, hy⟩)
    go_ret2
    exact ⟨rfl, hy⟩
  | none =>
    rw [hR] at C
    unfold PuE at C
    clear hR hg hmax hne
    go_enter Tryz.func91, Tryz.ntmps91
    go_wp2_with (first
      | (go_at_call 105; refine C.out.mono ?_; rintro e wy ⟨⟨v, k, rfl, hk⟩, hy⟩; have C2 := hide (CT.out k hk wy hy); have HY := hide hy; clear hy)
      | (go_at_call 93; refine C2.out.mono ?_; rintro e wz ⟨⟨tp, p, rfl⟩, hz⟩))
    go_ret2
    exact ⟨⟨_, _, _, rfl⟩, below_t5 HY.out hz⟩
set_option maxRecDepth 8000 in
set_option maxHeartbeats 1000000 in
theorem coded8_short (b : Nat) (s : ByteArray) (a : Nat) (l : Int) (w : World) (h : RAt w b s a l) (hs : s.size ≤ 16777216) (ha : a ≤ s.size) (hsh : s.size - a < 3) :
    Calls Tryz.prog 71 #[.pointer (some ⟨b, 0, none⟩), .int .i64 3, .int .i64 8] w fun e w' => e = thrown ∧ But b w w' := by
  obtain ⟨⟨c0, c1, c2⟩, z0, z1, z2⟩ := h.three
  have CM := hide (must_f)
  have g2 : (s.size : Int) ≤ 16777216 := by omega
  have g1 : (a : Int) ≤ (s.size : Int) := by omega
  have g0 : (0 : Int) ≤ (a : Int) := by omega
  obtain ⟨D, hD⟩ : ∃ D : Int, D = (s.size : Int) - (a : Int) := ⟨_, rfl⟩
  have gw : IntKind.i64.wrap ((s.size : Int) - (a : Int)) = D := by rw [IntKind.wrap_i64]; omega
  have g3 : decide ((3 : Int) ≤ D) = false := by rw [decide_eq_false_iff_not]; omega
  clear h hs ha hsh hD
  go_enter Tryz.func71, Tryz.ntmps71
  go_wp2_with fail
  go_region_dies
  all_goals
    go_at_call 40
    refine (CM.out _).mono ?_
    rintro e wy ⟨rfl, hy⟩
    subst wy
    exact ⟨rfl, rfl, (But.refl _ _).drew⟩
set_option maxRecDepth 8000 in
set_option maxHeartbeats 1000000 in
theorem coded8_long (b : Nat) (s : ByteArray) (a : Nat) (l : Int) (w : World) (h : RAt w b s a l) (hg : Glo5 w) (hs : s.size ≤ 16777216) (ha : a + 3 ≤ s.size) (R : Option Nat) (hR : puR 8 ((s.data.toList.drop a).take 3) 0 = R) :
    Calls Tryz.prog 71 #[.pointer (some ⟨b, 0, none⟩), .int .i64 3, .int .i64 8] w (CodR b w s (a + 3) l R) := by
  obtain ⟨⟨c0, c1, c2⟩, z0, z1, z2⟩ := h.three
  have HR := hide h
  have hx : (s.extract a (a + 3)).data.toList = (s.data.toList.drop a).take 3 := by rw [Lib.extract_data]; congr 1; omega
  have hxs : (s.extract a (a + 3)).size = 3 := by rw [Lib.size_eq, hx, List.length_take, List.length_drop, ← Lib.size_eq]; omega
  have CP := fun x (hx : Below w.heap.size w x) => pub8 (s.extract a (a + 3)) (by rw [hxs]; decide) (by rw [hxs]; decide) x (hg.below hx)
  rw [hx, hR] at CP
  obtain ⟨E, hE⟩ : ∃ E : Nat, E = a + 3 := ⟨_, rfl⟩
  rw [← hE] at CP hx hxs
  have HE := hide hE
  obtain ⟨t, hex⟩ : ∃ t, s.extract a E = t := ⟨_, rfl⟩
  rw [hex] at CP hx hxs
  have e1 : (a : Int) ≤ (E : Int) := by omega
  have e2 : (E : Int) ≤ (s.size : Int) := by omega
  have e0 : (0 : Int) ≤ (E : Int) := by omega
  have CM := hide (must_t)
  have CF := hide (must_f)
  have g2 : (s.size : Int) ≤ 16777216 := by omega
  have g1 : (a : Int) + 3 ≤ (s.size : Int) := by omega
  have g0 : (0 : Int) ≤ (a : Int) := by omega
  obtain ⟨D, hD⟩ : ∃ D : Int, D = (s.size : Int) - (a : Int) := ⟨_, rfl⟩
  have gw : IntKind.i64.wrap ((s.size : Int) - (a : Int)) = D := by rw [IntKind.wrap_i64]; omega
  have g3 : decide ((3 : Int) ≤ D) = true := by rw [decide_eq_true_iff]; omega
  have HPR := hide hR
  clear hD h hR hx hxs hg hs ha hE
  have CP := hide CP
  have gn : IntKind.i64.wrap ((a : Int) + 3) = (E : Int) := by rw [IntKind.wrap_i64, HE.out]; omega
  cases R with
  | some m =>
    have hm : (m : Int) ≤ 255 := by have := puR_le 8 _ 0 m (by omega) HPR.out; omega
    have hm0 : (0 : Int) ≤ (m : Int) := by omega
    unfold PuF at CP
    unfold CodR
    clear HPR
    go_enter Tryz.func71, Tryz.ntmps71
    go_wp2_with fail
    go_region_held3 (fun x => x.cell? ⟨b, 0, none⟩ = some (.string s) ∧ x.cell? ⟨b, 1, none⟩ = some (.int .i64 a)) (go_keep) ((first | (go_at_call 40; refine (CM.out _).mono ?_; rintro e wy ⟨rfl, hy⟩; subst wy)))
    go_wp2_with fail
    go_region_held3 (fun x => x.cell? ⟨b, 0, none⟩ = some (.string s) ∧ x.cell? ⟨b, 1, none⟩ = some (.int .i64 a)) (first | go_keep | exact ⟨(HRS.out.three).1.1, (HRS.out.three).1.2.1⟩) ((first | (go_at_call 91; refine (CP.out _ (Below.refl _ _).drew.drew).mono ?_; rintro e wy ⟨rfl, hy⟩; have HRS : Hid (RAt wy b s a l) := hide (RAt.below (w := w.drew.drew) HR.out hy); have HY : Hid (But b w wy) := hide ((((But.refl b w).drew).drew).trans (But.of_below hy)); clear hy)))
    obtain ⟨⟨d0, d1, d2⟩, y0, y1, y2⟩ := HRS.out.three
    clear c0 c1 c2 z0 z1 z2 gn
    go_wp2_with (go_at_call 40; refine (CM.out _).mono ?_; rintro e wz ⟨rfl, hz⟩; subst wz)
    go_ret
    exact ⟨rfl, HY.out.trans (But.setCell b _ 1 _), RAt.at1 HRS.out (a + 3)⟩
  | none =>
    unfold PuF at CP
    unfold CodR
    clear HPR
    go_enter Tryz.func71, Tryz.ntmps71
    go_wp2_with fail
    go_region_held3 (fun x => x.cell? ⟨b, 0, none⟩ = some (.string s) ∧ x.cell? ⟨b, 1, none⟩ = some (.int .i64 a)) (go_keep) ((first | (go_at_call 40; refine (CM.out _).mono ?_; rintro e wy ⟨rfl, hy⟩; subst wy)))
    go_wp2_with fail
    go_region_held3 (fun x => x.cell? ⟨b, 0, none⟩ = some (.string s) ∧ x.cell? ⟨b, 1, none⟩ = some (.int .i64 a)) (first | go_keep | exact ⟨(HRS.out.three).1.1, (HRS.out.three).1.2.1⟩) ((first | (go_at_call 91; refine (CP.out _ (Below.refl _ _).drew.drew).mono ?_; rintro e wy ⟨⟨v, tp, p, rfl⟩, hy⟩; have HRS : Hid (RAt wy b s a l) := hide (RAt.below (w := w.drew.drew) HR.out hy); have HY : Hid (But b w wy) := hide ((((But.refl b w).drew).drew).trans (But.of_below hy)); clear hy)))
    obtain ⟨⟨d0, d1, d2⟩, y0, y1, y2⟩ := HRS.out.three
    clear c0 c1 c2 z0 z1 z2 gn
    go_wp2_with (go_at_call 40; refine (CF.out _).mono ?_; rintro e wz ⟨rfl, hz⟩; subst wz)
    exact ⟨rfl, rfl, HY.out⟩
end Go.Proofs.YtalmcdbdibpgkaaGreatDoor
