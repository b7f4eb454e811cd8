/-
  Joined: O5Qat.
-/
import Derived.Test.YtalmcdbdibpgkaaGreatDoorBS
import Derived.Test.YtalmcdbdibpgkaaGreatDoorBL
import Derived.Test.YtalmcdbdibpgkaaGreatDoorBJ
/-
  What the reference's atom answers.
-/
namespace Go.Proofs.YtalmcdbdibpgkaaGreatDoor
open Go.RowKit Go.Deep
set_option linter.unusedVariables false

theorem atom_fin {w wf : World} {B : Nat} {p : Pay} {q : Nat} {ok : Bool} (hk : Blk wf B (obox p none 0 none 0 0) 25) (hbel : Below B w wf) (a : Act) (h4 : a.tmps[4]?.getD undef = .pointer (some ⟨B, 0, none⟩)) (h5 : a.tmps[5]?.getD undef = .int .i64 q) (h6 : a.tmps[6]?.getD undef = .bool ok) (hd : a.defers = []) :
    bodyPost Tryz.prog Tryz.f55 (fun e w' => e = .returned (.tuple #[ov p none 0 none 0 0, .int .i64 q, .bool ok]) ∧ Below B w w') Exit.ret a wf := by
  obtain ⟨⟨f0, f1, f2, f3, f4, f5⟩, _⟩ := hk.six
  refine bodyPost_ret (v := .tuple #[ov p none 0 none 0 0, .int .i64 q, .bool ok]) ?_ hd ⟨rfl, hbel⟩
  simp [results, Tryz.results55, go_sem, f0, f1, f2, f3, f4, f5, h4, h5, h6]
theorem ext_size {s : ByteArray} {a E : Nat} {W : ByteArray} (hs : s.size ≤ 16777216) (hE : E ≤ s.size) (hW : s.extract a E = W) : W.size ≤ 16777216 := by
  rw [← hW]
  have : (s.extract a E).size = (s.extract a E).data.toList.length := Lib.size_eq _
  rw [this, Lib.extract_data, List.length_take]
  omega
set_option maxRecDepth 8000 in
set_option maxHeartbeats 1000000 in
theorem atom_null (s : ByteArray) (a : Nat) (w : World) (hs : s.size ≤ 16777216) (ha : a ≤ s.size) (E : Nat) (hE : wordV s.data.toList a = E) (W : ByteArray) (hW : s.extract a E = W)
    (n0 : (W.toList == [110, 117, 108, 108]) = true) :
    Calls Tryz.prog 55 #[.string s, .int .i64 a] w fun e w' => e = .returned (.tuple #[ov (zp 0 false 0) none 0 none 0 0, .int .i64 E, .bool true]) ∧ Below w.heap.size w w' := by
  have hEb := word_le s a ha
  rw [hE] at hEb
  have hWs := ext_size hs hEb.2 hW
  have CW := hide (fun k x (hk : k ≤ s.size) => word_any s k x hs hk)
  have CB := hide (fun k x (hk : k ≤ s.size) => blanks_any s k x hs hk)
  have HE := hide hE
  have HK : Hid (∀ cs, Blk (w.alloc (.cells cs 25)) w.heap.size cs 25) := hide (fun cs => Blk.new _ _ _)
  have HB : Hid (∀ o, Below w.heap.size w (w.alloc o)) := hide (fun o => (Below.refl _ _).alloc (Nat.le_refl _) _)
  have hs' : (s.size : Int) ≤ 16777216 := by omega
  have ha1 : (a : Int) ≤ (E : Int) := by omega
  have ha2 : (E : Int) ≤ (s.size : Int) := by omega
  have ha0 : (0 : Int) ≤ (a : Int) := by omega
  clear hE
  go_enter Tryz.func55, Tryz.ntmps55
  go_wp2_with (go_at_call 85; refine (CW.out _ _ (by omega)).mono ?_; rintro e w2 ⟨rfl, rfl⟩; rw [HE.out])
  exact atom_fin (HK.out _) (HB.out _) _ rfl rfl rfl rfl
set_option maxRecDepth 8000 in
set_option maxHeartbeats 1000000 in
theorem atom_true (s : ByteArray) (a : Nat) (w : World) (hs : s.size ≤ 16777216) (ha : a ≤ s.size) (E : Nat) (hE : wordV s.data.toList a = E) (W : ByteArray) (hW : s.extract a E = W)
    (n0 : (W.toList == [110, 117, 108, 108]) = false) (n1 : (W.toList == [116, 114, 117, 101]) = true) :
    Calls Tryz.prog 55 #[.string s, .int .i64 a] w fun e w' => e = .returned (.tuple #[ov (zp 1 true 0) none 0 none 0 0, .int .i64 E, .bool true]) ∧ Below w.heap.size w w' := by
  have hEb := word_le s a ha
  rw [hE] at hEb
  have hWs := ext_size hs hEb.2 hW
  have CW := hide (fun k x (hk : k ≤ s.size) => word_any s k x hs hk)
  have CB := hide (fun k x (hk : k ≤ s.size) => blanks_any s k x hs hk)
  have HE := hide hE
  have HK : Hid (∀ cs, Blk (w.alloc (.cells cs 25)) w.heap.size cs 25) := hide (fun cs => Blk.new _ _ _)
  have HB : Hid (∀ o, Below w.heap.size w (w.alloc o)) := hide (fun o => (Below.refl _ _).alloc (Nat.le_refl _) _)
  have hs' : (s.size : Int) ≤ 16777216 := by omega
  have ha1 : (a : Int) ≤ (E : Int) := by omega
  have ha2 : (E : Int) ≤ (s.size : Int) := by omega
  have ha0 : (0 : Int) ≤ (a : Int) := by omega
  clear hE
  go_enter Tryz.func55, Tryz.ntmps55
  go_wp2_with (go_at_call 85; refine (CW.out _ _ (by omega)).mono ?_; rintro e w2 ⟨rfl, rfl⟩; rw [HE.out])
  exact atom_fin (HK.out _) (HB.out _) _ rfl rfl rfl rfl
set_option maxRecDepth 8000 in
set_option maxHeartbeats 1000000 in
theorem atom_false (s : ByteArray) (a : Nat) (w : World) (hs : s.size ≤ 16777216) (ha : a ≤ s.size) (E : Nat) (hE : wordV s.data.toList a = E) (W : ByteArray) (hW : s.extract a E = W)
    (n0 : (W.toList == [110, 117, 108, 108]) = false) (n1 : (W.toList == [116, 114, 117, 101]) = false) (n2 : (W.toList == [102, 97, 108, 115, 101]) = true) :
    Calls Tryz.prog 55 #[.string s, .int .i64 a] w fun e w' => e = .returned (.tuple #[ov (zp 1 false 0) none 0 none 0 0, .int .i64 E, .bool true]) ∧ Below w.heap.size w w' := by
  have hEb := word_le s a ha
  rw [hE] at hEb
  have hWs := ext_size hs hEb.2 hW
  have CW := hide (fun k x (hk : k ≤ s.size) => word_any s k x hs hk)
  have CB := hide (fun k x (hk : k ≤ s.size) => blanks_any s k x hs hk)
  have HE := hide hE
  have HK : Hid (∀ cs, Blk (w.alloc (.cells cs 25)) w.heap.size cs 25) := hide (fun cs => Blk.new _ _ _)
  have HB : Hid (∀ o, Below w.heap.size w (w.alloc o)) := hide (fun o => (Below.refl _ _).alloc (Nat.le_refl _) _)
  have hs' : (s.size : Int) ≤ 16777216 := by omega
  have ha1 : (a : Int) ≤ (E : Int) := by omega
  have ha2 : (E : Int) ≤ (s.size : Int) := by omega
  have ha0 : (0 : Int) ≤ (a : Int) := by omega
  clear hE
  go_enter Tryz.func55, Tryz.ntmps55
  go_wp2_with (go_at_call 85; refine (CW.out _ _ (by omega)).mono ?_; rintro e w2 ⟨rfl, rfl⟩; rw [HE.out])
  exact atom_fin (HK.out _) (HB.out _) _ rfl rfl rfl rfl
set_option maxRecDepth 8000 in
set_option maxHeartbeats 1000000 in
theorem atom_int1 (s : ByteArray) (a : Nat) (w : World) (hs : s.size ≤ 16777216) (ha : a ≤ s.size) (E : Nat) (hE : wordV s.data.toList a = E) (W : ByteArray) (hW : s.extract a E = W)
    (n0 : (W.toList == [110, 117, 108, 108]) = false) (n1 : (W.toList == [116, 114, 117, 101]) = false) (n2 : (W.toList == [102, 97, 108, 115, 101]) = false) (x : Int) (hx : intW W.data.toList = (x, true)) (A B C D : Nat) (hA : blanksV s.data.toList E = A) (hB : wordV s.data.toList A = B) (hC : blanksV s.data.toList B = C) (hD : wordV s.data.toList C = D)
    (e1 : ¬ E < A) :
    Calls Tryz.prog 55 #[.string s, .int .i64 a] w fun e w' => e = .returned (.tuple #[ov (zp 2 false x) none 0 none 0 0, .int .i64 E, .bool true]) ∧ Below w.heap.size w w' := by
  have hEb := word_le s a ha
  rw [hE] at hEb
  have hWs := ext_size hs hEb.2 hW
  have CW := hide (fun k x (hk : k ≤ s.size) => word_any s k x hs hk)
  have CB := hide (fun k x (hk : k ≤ s.size) => blanks_any s k x hs hk)
  have HE := hide hE
  have HK : Hid (∀ cs, Blk (w.alloc (.cells cs 25)) w.heap.size cs 25) := hide (fun cs => Blk.new _ _ _)
  have HB : Hid (∀ o, Below w.heap.size w (w.alloc o)) := hide (fun o => (Below.refl _ _).alloc (Nat.le_refl _) _)
  have hs' : (s.size : Int) ≤ 16777216 := by omega
  have ha1 : (a : Int) ≤ (E : Int) := by omega
  have ha2 : (E : Int) ≤ (s.size : Int) := by omega
  have ha0 : (0 : Int) ≤ (a : Int) := by omega
  have HA := hide hA
  have HB2 := hide hB
  have HC := hide hC
  have HD := hide hD
  have hA2 := blanks_le s E hEb.2
  rw [hA] at hA2
  have hB2 := word_le s A hA2
  rw [hB] at hB2
  have hC2 := blanks_le s B hB2.2
  rw [hC] at hC2
  have hD2 := word_le s C hC2
  rw [hD] at hD2
  have CI := fun x' => integer_any W x' hWs
  rw [hx] at CI
  have CI := hide CI
  have i1 : (A : Int) ≤ (B : Int) := by omega
  have i2 : (B : Int) ≤ (s.size : Int) := by omega
  have i3 : (C : Int) ≤ (D : Int) := by omega
  have i4 : (D : Int) ≤ (s.size : Int) := by omega
  have i5 : (0 : Int) ≤ (A : Int) := by omega
  have i6 : (0 : Int) ≤ (C : Int) := by omega
  have d1 : decide ((E : Int) < (A : Int)) = false := by simp; omega
  clear hE hA hB hC hD hx
  go_enter Tryz.func55, Tryz.ntmps55
  go_wp2_with (first | (go_at_call 85; refine (CW.out _ _ (by omega)).mono ?_; rintro e w2 ⟨rfl, rfl⟩; first | rw [HE.out] | rw [HB2.out] | rw [HD.out]) | (go_at_call 26; refine (CB.out _ _ (by omega)).mono ?_; rintro e w2 ⟨rfl, rfl⟩; first | rw [HA.out] | rw [HC.out]) | (go_at_call 86; refine (CI.out _).mono ?_; rintro e w2 ⟨rfl, rfl⟩))
  exact atom_fin (HK.out _) (HB.out _) _ rfl rfl rfl rfl
set_option maxRecDepth 8000 in
set_option maxHeartbeats 1000000 in
theorem atom_int2 (s : ByteArray) (a : Nat) (w : World) (hs : s.size ≤ 16777216) (ha : a ≤ s.size) (E : Nat) (hE : wordV s.data.toList a = E) (W : ByteArray) (hW : s.extract a E = W)
    (n0 : (W.toList == [110, 117, 108, 108]) = false) (n1 : (W.toList == [116, 114, 117, 101]) = false) (n2 : (W.toList == [102, 97, 108, 115, 101]) = false) (x : Int) (hx : intW W.data.toList = (x, true)) (A B C D : Nat) (hA : blanksV s.data.toList E = A) (hB : wordV s.data.toList A = B) (hC : blanksV s.data.toList B = C) (hD : wordV s.data.toList C = D)
    (e1 : E < A) (e2 : ¬ B < C) :
    Calls Tryz.prog 55 #[.string s, .int .i64 a] w fun e w' => e = .returned (.tuple #[ov (zp 2 false x) none 0 none 0 0, .int .i64 E, .bool true]) ∧ Below w.heap.size w w' := by
  have hEb := word_le s a ha
  rw [hE] at hEb
  have hWs := ext_size hs hEb.2 hW
  have CW := hide (fun k x (hk : k ≤ s.size) => word_any s k x hs hk)
  have CB := hide (fun k x (hk : k ≤ s.size) => blanks_any s k x hs hk)
  have HE := hide hE
  have HK : Hid (∀ cs, Blk (w.alloc (.cells cs 25)) w.heap.size cs 25) := hide (fun cs => Blk.new _ _ _)
  have HB : Hid (∀ o, Below w.heap.size w (w.alloc o)) := hide (fun o => (Below.refl _ _).alloc (Nat.le_refl _) _)
  have hs' : (s.size : Int) ≤ 16777216 := by omega
  have ha1 : (a : Int) ≤ (E : Int) := by omega
  have ha2 : (E : Int) ≤ (s.size : Int) := by omega
  have ha0 : (0 : Int) ≤ (a : Int) := by omega
  have HA := hide hA
  have HB2 := hide hB
  have HC := hide hC
  have HD := hide hD
  have hA2 := blanks_le s E hEb.2
  rw [hA] at hA2
  have hB2 := word_le s A hA2
  rw [hB] at hB2
  have hC2 := blanks_le s B hB2.2
  rw [hC] at hC2
  have hD2 := word_le s C hC2
  rw [hD] at hD2
  have CI := fun x' => integer_any W x' hWs
  rw [hx] at CI
  have CI := hide CI
  have i1 : (A : Int) ≤ (B : Int) := by omega
  have i2 : (B : Int) ≤ (s.size : Int) := by omega
  have i3 : (C : Int) ≤ (D : Int) := by omega
  have i4 : (D : Int) ≤ (s.size : Int) := by omega
  have i5 : (0 : Int) ≤ (A : Int) := by omega
  have i6 : (0 : Int) ≤ (C : Int) := by omega
  have d1 : decide ((E : Int) < (A : Int)) = true := by simp; omega
  have d2 : decide ((B : Int) < (C : Int)) = false := by simp; omega
  clear hE hA hB hC hD hx
  go_enter Tryz.func55, Tryz.ntmps55
  go_wp2_with (first | (go_at_call 85; refine (CW.out _ _ (by omega)).mono ?_; rintro e w2 ⟨rfl, rfl⟩; first | rw [HE.out] | rw [HB2.out] | rw [HD.out]) | (go_at_call 26; refine (CB.out _ _ (by omega)).mono ?_; rintro e w2 ⟨rfl, rfl⟩; first | rw [HA.out] | rw [HC.out]) | (go_at_call 86; refine (CI.out _).mono ?_; rintro e w2 ⟨rfl, rfl⟩))
  exact atom_fin (HK.out _) (HB.out _) _ rfl rfl rfl rfl
set_option maxRecDepth 8000 in
set_option maxHeartbeats 1000000 in
theorem atom_int3 (s : ByteArray) (a : Nat) (w : World) (hs : s.size ≤ 16777216) (ha : a ≤ s.size) (E : Nat) (hE : wordV s.data.toList a = E) (W : ByteArray) (hW : s.extract a E = W)
    (n0 : (W.toList == [110, 117, 108, 108]) = false) (n1 : (W.toList == [116, 114, 117, 101]) = false) (n2 : (W.toList == [102, 97, 108, 115, 101]) = false) (x : Int) (hx : intW W.data.toList = (x, true)) (A B C D : Nat) (hA : blanksV s.data.toList E = A) (hB : wordV s.data.toList A = B) (hC : blanksV s.data.toList B = C) (hD : wordV s.data.toList C = D)
    (e1 : E < A) (e2 : B < C) (X : ByteArray) (hX : s.extract A B = X) (e3 : (X.toList == [48]) = false) :
    Calls Tryz.prog 55 #[.string s, .int .i64 a] w fun e w' => e = .returned (.tuple #[ov (zp 2 false x) none 0 none 0 0, .int .i64 E, .bool true]) ∧ Below w.heap.size w w' := by
  have hEb := word_le s a ha
  rw [hE] at hEb
  have hWs := ext_size hs hEb.2 hW
  have CW := hide (fun k x (hk : k ≤ s.size) => word_any s k x hs hk)
  have CB := hide (fun k x (hk : k ≤ s.size) => blanks_any s k x hs hk)
  have HE := hide hE
  have HK : Hid (∀ cs, Blk (w.alloc (.cells cs 25)) w.heap.size cs 25) := hide (fun cs => Blk.new _ _ _)
  have HB : Hid (∀ o, Below w.heap.size w (w.alloc o)) := hide (fun o => (Below.refl _ _).alloc (Nat.le_refl _) _)
  have hs' : (s.size : Int) ≤ 16777216 := by omega
  have ha1 : (a : Int) ≤ (E : Int) := by omega
  have ha2 : (E : Int) ≤ (s.size : Int) := by omega
  have ha0 : (0 : Int) ≤ (a : Int) := by omega
  have HA := hide hA
  have HB2 := hide hB
  have HC := hide hC
  have HD := hide hD
  have hA2 := blanks_le s E hEb.2
  rw [hA] at hA2
  have hB2 := word_le s A hA2
  rw [hB] at hB2
  have hC2 := blanks_le s B hB2.2
  rw [hC] at hC2
  have hD2 := word_le s C hC2
  rw [hD] at hD2
  have CI := fun x' => integer_any W x' hWs
  rw [hx] at CI
  have CI := hide CI
  have i1 : (A : Int) ≤ (B : Int) := by omega
  have i2 : (B : Int) ≤ (s.size : Int) := by omega
  have i3 : (C : Int) ≤ (D : Int) := by omega
  have i4 : (D : Int) ≤ (s.size : Int) := by omega
  have i5 : (0 : Int) ≤ (A : Int) := by omega
  have i6 : (0 : Int) ≤ (C : Int) := by omega
  have d1 : decide ((E : Int) < (A : Int)) = true := by simp; omega
  have d2 : decide ((B : Int) < (C : Int)) = true := by simp; omega
  clear hE hA hB hC hD hx
  go_enter Tryz.func55, Tryz.ntmps55
  go_wp2_with (first | (go_at_call 85; refine (CW.out _ _ (by omega)).mono ?_; rintro e w2 ⟨rfl, rfl⟩; first | rw [HE.out] | rw [HB2.out] | rw [HD.out]) | (go_at_call 26; refine (CB.out _ _ (by omega)).mono ?_; rintro e w2 ⟨rfl, rfl⟩; first | rw [HA.out] | rw [HC.out]) | (go_at_call 86; refine (CI.out _).mono ?_; rintro e w2 ⟨rfl, rfl⟩))
  exact atom_fin (HK.out _) (HB.out _) _ rfl rfl rfl rfl
set_option maxRecDepth 8000 in
set_option maxHeartbeats 1000000 in
theorem atom_int4 (s : ByteArray) (a : Nat) (w : World) (hs : s.size ≤ 16777216) (ha : a ≤ s.size) (E : Nat) (hE : wordV s.data.toList a = E) (W : ByteArray) (hW : s.extract a E = W)
    (n0 : (W.toList == [110, 117, 108, 108]) = false) (n1 : (W.toList == [116, 114, 117, 101]) = false) (n2 : (W.toList == [102, 97, 108, 115, 101]) = false) (x : Int) (hx : intW W.data.toList = (x, true)) (A B C D : Nat) (hA : blanksV s.data.toList E = A) (hB : wordV s.data.toList A = B) (hC : blanksV s.data.toList B = C) (hD : wordV s.data.toList C = D)
    (e1 : E < A) (e2 : B < C) (X : ByteArray) (hX : s.extract A B = X) (e3 : (X.toList == [48]) = true) (Y : ByteArray) (hY : s.extract C D = Y) (e4 : (Y.toList == [82]) = false) :
    Calls Tryz.prog 55 #[.string s, .int .i64 a] w fun e w' => e = .returned (.tuple #[ov (zp 2 false x) none 0 none 0 0, .int .i64 E, .bool true]) ∧ Below w.heap.size w w' := by
  have hEb := word_le s a ha
  rw [hE] at hEb
  have hWs := ext_size hs hEb.2 hW
  have CW := hide (fun k x (hk : k ≤ s.size) => word_any s k x hs hk)
  have CB := hide (fun k x (hk : k ≤ s.size) => blanks_any s k x hs hk)
  have HE := hide hE
  have HK : Hid (∀ cs, Blk (w.alloc (.cells cs 25)) w.heap.size cs 25) := hide (fun cs => Blk.new _ _ _)
  have HB : Hid (∀ o, Below w.heap.size w (w.alloc o)) := hide (fun o => (Below.refl _ _).alloc (Nat.le_refl _) _)
  have hs' : (s.size : Int) ≤ 16777216 := by omega
  have ha1 : (a : Int) ≤ (E : Int) := by omega
  have ha2 : (E : Int) ≤ (s.size : Int) := by omega
  have ha0 : (0 : Int) ≤ (a : Int) := by omega
  have HA := hide hA
  have HB2 := hide hB
  have HC := hide hC
  have HD := hide hD
  have hA2 := blanks_le s E hEb.2
  rw [hA] at hA2
  have hB2 := word_le s A hA2
  rw [hB] at hB2
  have hC2 := blanks_le s B hB2.2
  rw [hC] at hC2
  have hD2 := word_le s C hC2
  rw [hD] at hD2
  have CI := fun x' => integer_any W x' hWs
  rw [hx] at CI
  have CI := hide CI
  have i1 : (A : Int) ≤ (B : Int) := by omega
  have i2 : (B : Int) ≤ (s.size : Int) := by omega
  have i3 : (C : Int) ≤ (D : Int) := by omega
  have i4 : (D : Int) ≤ (s.size : Int) := by omega
  have i5 : (0 : Int) ≤ (A : Int) := by omega
  have i6 : (0 : Int) ≤ (C : Int) := by omega
  have d1 : decide ((E : Int) < (A : Int)) = true := by simp; omega
  have d2 : decide ((B : Int) < (C : Int)) = true := by simp; omega
  clear hE hA hB hC hD hx
  go_enter Tryz.func55, Tryz.ntmps55
  go_wp2_with (first | (go_at_call 85; refine (CW.out _ _ (by omega)).mono ?_; rintro e w2 ⟨rfl, rfl⟩; first | rw [HE.out] | rw [HB2.out] | rw [HD.out]) | (go_at_call 26; refine (CB.out _ _ (by omega)).mono ?_; rintro e w2 ⟨rfl, rfl⟩; first | rw [HA.out] | rw [HC.out]) | (go_at_call 86; refine (CI.out _).mono ?_; rintro e w2 ⟨rfl, rfl⟩))
  exact atom_fin (HK.out _) (HB.out _) _ rfl rfl rfl rfl
set_option maxRecDepth 8000 in
set_option maxHeartbeats 1000000 in
theorem atom_ref (s : ByteArray) (a : Nat) (w : World) (hs : s.size ≤ 16777216) (ha : a ≤ s.size) (E : Nat) (hE : wordV s.data.toList a = E) (W : ByteArray) (hW : s.extract a E = W)
    (n0 : (W.toList == [110, 117, 108, 108]) = false) (n1 : (W.toList == [116, 114, 117, 101]) = false) (n2 : (W.toList == [102, 97, 108, 115, 101]) = false) (x : Int) (hx : intW W.data.toList = (x, true)) (A B C D : Nat) (hA : blanksV s.data.toList E = A) (hB : wordV s.data.toList A = B) (hC : blanksV s.data.toList B = C) (hD : wordV s.data.toList C = D)
    (e1 : E < A) (e2 : B < C) (X : ByteArray) (hX : s.extract A B = X) (e3 : (X.toList == [48]) = true) (Y : ByteArray) (hY : s.extract C D = Y) (e4 : (Y.toList == [82]) = true) (x1 : 1 ≤ x) (x2 : x ≤ 4096) :
    Calls Tryz.prog 55 #[.string s, .int .i64 a] w fun e w' => e = .returned (.tuple #[ov (zp 8 false x) none 0 none 0 0, .int .i64 D, .bool true]) ∧ Below w.heap.size w w' := by
  have hEb := word_le s a ha
  rw [hE] at hEb
  have hWs := ext_size hs hEb.2 hW
  have CW := hide (fun k x (hk : k ≤ s.size) => word_any s k x hs hk)
  have CB := hide (fun k x (hk : k ≤ s.size) => blanks_any s k x hs hk)
  have HE := hide hE
  have HK : Hid (∀ cs, Blk (w.alloc (.cells cs 25)) w.heap.size cs 25) := hide (fun cs => Blk.new _ _ _)
  have HB : Hid (∀ o, Below w.heap.size w (w.alloc o)) := hide (fun o => (Below.refl _ _).alloc (Nat.le_refl _) _)
  have hs' : (s.size : Int) ≤ 16777216 := by omega
  have ha1 : (a : Int) ≤ (E : Int) := by omega
  have ha2 : (E : Int) ≤ (s.size : Int) := by omega
  have ha0 : (0 : Int) ≤ (a : Int) := by omega
  have HA := hide hA
  have HB2 := hide hB
  have HC := hide hC
  have HD := hide hD
  have hA2 := blanks_le s E hEb.2
  rw [hA] at hA2
  have hB2 := word_le s A hA2
  rw [hB] at hB2
  have hC2 := blanks_le s B hB2.2
  rw [hC] at hC2
  have hD2 := word_le s C hC2
  rw [hD] at hD2
  have CI := fun x' => integer_any W x' hWs
  rw [hx] at CI
  have CI := hide CI
  have i1 : (A : Int) ≤ (B : Int) := by omega
  have i2 : (B : Int) ≤ (s.size : Int) := by omega
  have i3 : (C : Int) ≤ (D : Int) := by omega
  have i4 : (D : Int) ≤ (s.size : Int) := by omega
  have i5 : (0 : Int) ≤ (A : Int) := by omega
  have i6 : (0 : Int) ≤ (C : Int) := by omega
  have d1 : decide ((E : Int) < (A : Int)) = true := by simp; omega
  have d2 : decide ((B : Int) < (C : Int)) = true := by simp; omega
  have d3 : decide ((1 : Int) ≤ x) = true := by simp; omega
  have d4 : decide (x ≤ 4096) = true := by simp; omega
  clear hE hA hB hC hD hx
  go_enter Tryz.func55, Tryz.ntmps55
  go_wp2_with (first | (go_at_call 85; refine (CW.out _ _ (by omega)).mono ?_; rintro e w2 ⟨rfl, rfl⟩; first | rw [HE.out] | rw [HB2.out] | rw [HD.out]) | (go_at_call 26; refine (CB.out _ _ (by omega)).mono ?_; rintro e w2 ⟨rfl, rfl⟩; first | rw [HA.out] | rw [HC.out]) | (go_at_call 86; refine (CI.out _).mono ?_; rintro e w2 ⟨rfl, rfl⟩))
  exact atom_fin (HK.out _) (HB.out _) _ rfl rfl rfl rfl
set_option maxRecDepth 8000 in
set_option maxHeartbeats 1000000 in
theorem atom_low (s : ByteArray) (a : Nat) (w : World) (hs : s.size ≤ 16777216) (ha : a ≤ s.size) (E : Nat) (hE : wordV s.data.toList a = E) (W : ByteArray) (hW : s.extract a E = W)
    (n0 : (W.toList == [110, 117, 108, 108]) = false) (n1 : (W.toList == [116, 114, 117, 101]) = false) (n2 : (W.toList == [102, 97, 108, 115, 101]) = false) (x : Int) (hx : intW W.data.toList = (x, true)) (A B C D : Nat) (hA : blanksV s.data.toList E = A) (hB : wordV s.data.toList A = B) (hC : blanksV s.data.toList B = C) (hD : wordV s.data.toList C = D)
    (e1 : E < A) (e2 : B < C) (X : ByteArray) (hX : s.extract A B = X) (e3 : (X.toList == [48]) = true) (Y : ByteArray) (hY : s.extract C D = Y) (e4 : (Y.toList == [82]) = true) (x1 : ¬ 1 ≤ x) :
    Calls Tryz.prog 55 #[.string s, .int .i64 a] w fun e w' => e = .returned (.tuple #[ov (zp 8 false x) none 0 none 0 0, .int .i64 D, .bool false]) ∧ Below w.heap.size w w' := by
  have hEb := word_le s a ha
  rw [hE] at hEb
  have hWs := ext_size hs hEb.2 hW
  have CW := hide (fun k x (hk : k ≤ s.size) => word_any s k x hs hk)
  have CB := hide (fun k x (hk : k ≤ s.size) => blanks_any s k x hs hk)
  have HE := hide hE
  have HK : Hid (∀ cs, Blk (w.alloc (.cells cs 25)) w.heap.size cs 25) := hide (fun cs => Blk.new _ _ _)
  have HB : Hid (∀ o, Below w.heap.size w (w.alloc o)) := hide (fun o => (Below.refl _ _).alloc (Nat.le_refl _) _)
  have hs' : (s.size : Int) ≤ 16777216 := by omega
  have ha1 : (a : Int) ≤ (E : Int) := by omega
  have ha2 : (E : Int) ≤ (s.size : Int) := by omega
  have ha0 : (0 : Int) ≤ (a : Int) := by omega
  have HA := hide hA
  have HB2 := hide hB
  have HC := hide hC
  have HD := hide hD
  have hA2 := blanks_le s E hEb.2
  rw [hA] at hA2
  have hB2 := word_le s A hA2
  rw [hB] at hB2
  have hC2 := blanks_le s B hB2.2
  rw [hC] at hC2
  have hD2 := word_le s C hC2
  rw [hD] at hD2
  have CI := fun x' => integer_any W x' hWs
  rw [hx] at CI
  have CI := hide CI
  have i1 : (A : Int) ≤ (B : Int) := by omega
  have i2 : (B : Int) ≤ (s.size : Int) := by omega
  have i3 : (C : Int) ≤ (D : Int) := by omega
  have i4 : (D : Int) ≤ (s.size : Int) := by omega
  have i5 : (0 : Int) ≤ (A : Int) := by omega
  have i6 : (0 : Int) ≤ (C : Int) := by omega
  have d1 : decide ((E : Int) < (A : Int)) = true := by simp; omega
  have d2 : decide ((B : Int) < (C : Int)) = true := by simp; omega
  have d3 : decide ((1 : Int) ≤ x) = false := by simp; omega
  clear hE hA hB hC hD hx
  go_enter Tryz.func55, Tryz.ntmps55
  go_wp2_with (first | (go_at_call 85; refine (CW.out _ _ (by omega)).mono ?_; rintro e w2 ⟨rfl, rfl⟩; first | rw [HE.out] | rw [HB2.out] | rw [HD.out]) | (go_at_call 26; refine (CB.out _ _ (by omega)).mono ?_; rintro e w2 ⟨rfl, rfl⟩; first | rw [HA.out] | rw [HC.out]) | (go_at_call 86; refine (CI.out _).mono ?_; rintro e w2 ⟨rfl, rfl⟩))
  exact atom_fin (HK.out _) (HB.out _) _ rfl rfl rfl rfl
set_option maxRecDepth 8000 in
set_option maxHeartbeats 1000000 in
theorem atom_high (s : ByteArray) (a : Nat) (w : World) (hs : s.size ≤ 16777216) (ha : a ≤ s.size) (E : Nat) (hE : wordV s.data.toList a = E) (W : ByteArray) (hW : s.extract a E = W)
    (n0 : (W.toList == [110, 117, 108, 108]) = false) (n1 : (W.toList == [116, 114, 117, 101]) = false) (n2 : (W.toList == [102, 97, 108, 115, 101]) = false) (x : Int) (hx : intW W.data.toList = (x, true)) (A B C D : Nat) (hA : blanksV s.data.toList E = A) (hB : wordV s.data.toList A = B) (hC : blanksV s.data.toList B = C) (hD : wordV s.data.toList C = D)
    (e1 : E < A) (e2 : B < C) (X : ByteArray) (hX : s.extract A B = X) (e3 : (X.toList == [48]) = true) (Y : ByteArray) (hY : s.extract C D = Y) (e4 : (Y.toList == [82]) = true) (x1 : 1 ≤ x) (x2 : ¬ x ≤ 4096) :
    Calls Tryz.prog 55 #[.string s, .int .i64 a] w fun e w' => e = .returned (.tuple #[ov (zp 8 false x) none 0 none 0 0, .int .i64 D, .bool false]) ∧ Below w.heap.size w w' := by
  have hEb := word_le s a ha
  rw [hE] at hEb
  have hWs := ext_size hs hEb.2 hW
  have CW := hide (fun k x (hk : k ≤ s.size) => word_any s k x hs hk)
  have CB := hide (fun k x (hk : k ≤ s.size) => blanks_any s k x hs hk)
  have HE := hide hE
  have HK : Hid (∀ cs, Blk (w.alloc (.cells cs 25)) w.heap.size cs 25) := hide (fun cs => Blk.new _ _ _)
  have HB : Hid (∀ o, Below w.heap.size w (w.alloc o)) := hide (fun o => (Below.refl _ _).alloc (Nat.le_refl _) _)
  have hs' : (s.size : Int) ≤ 16777216 := by omega
  have ha1 : (a : Int) ≤ (E : Int) := by omega
  have ha2 : (E : Int) ≤ (s.size : Int) := by omega
  have ha0 : (0 : Int) ≤ (a : Int) := by omega
  have HA := hide hA
  have HB2 := hide hB
  have HC := hide hC
  have HD := hide hD
  have hA2 := blanks_le s E hEb.2
  rw [hA] at hA2
  have hB2 := word_le s A hA2
  rw [hB] at hB2
  have hC2 := blanks_le s B hB2.2
  rw [hC] at hC2
  have hD2 := word_le s C hC2
  rw [hD] at hD2
  have CI := fun x' => integer_any W x' hWs
  rw [hx] at CI
  have CI := hide CI
  have i1 : (A : Int) ≤ (B : Int) := by omega
  have i2 : (B : Int) ≤ (s.size : Int) := by omega
  have i3 : (C : Int) ≤ (D : Int) := by omega
  have i4 : (D : Int) ≤ (s.size : Int) := by omega
  have i5 : (0 : Int) ≤ (A : Int) := by omega
  have i6 : (0 : Int) ≤ (C : Int) := by omega
  have d1 : decide ((E : Int) < (A : Int)) = true := by simp; omega
  have d2 : decide ((B : Int) < (C : Int)) = true := by simp; omega
  have d3 : decide ((1 : Int) ≤ x) = true := by simp; omega
  have d4 : decide (x ≤ 4096) = false := by simp; omega
  clear hE hA hB hC hD hx
  go_enter Tryz.func55, Tryz.ntmps55
  go_wp2_with (first | (go_at_call 85; refine (CW.out _ _ (by omega)).mono ?_; rintro e w2 ⟨rfl, rfl⟩; first | rw [HE.out] | rw [HB2.out] | rw [HD.out]) | (go_at_call 26; refine (CB.out _ _ (by omega)).mono ?_; rintro e w2 ⟨rfl, rfl⟩; first | rw [HA.out] | rw [HC.out]) | (go_at_call 86; refine (CI.out _).mono ?_; rintro e w2 ⟨rfl, rfl⟩))
  exact atom_fin (HK.out _) (HB.out _) _ rfl rfl rfl rfl
set_option maxRecDepth 8000 in
set_option maxHeartbeats 1000000 in
theorem atom_real (s : ByteArray) (a : Nat) (w : World) (hs : s.size ≤ 16777216) (ha : a ≤ s.size) (E : Nat) (hE : wordV s.data.toList a = E) (W : ByteArray) (hW : s.extract a E = W)
    (n0 : (W.toList == [110, 117, 108, 108]) = false) (n1 : (W.toList == [116, 114, 117, 101]) = false) (n2 : (W.toList == [102, 97, 108, 115, 101]) = false) (x : Int) (hx : (intW W.data.toList).2 = false) (hy : D2.parV W.data.toList = x) (hp : D2.parB W.data.toList = true) (hm : (x.tmod 65536 != 0) = true) :
    Calls Tryz.prog 55 #[.string s, .int .i64 a] w fun e w' => e = .returned (.tuple #[ov (zp 3 false x) none 0 none 0 0, .int .i64 E, .bool true]) ∧ Below w.heap.size w w' := by
  have hEb := word_le s a ha
  rw [hE] at hEb
  have hWs := ext_size hs hEb.2 hW
  have CW := hide (fun k x (hk : k ≤ s.size) => word_any s k x hs hk)
  have CB := hide (fun k x (hk : k ≤ s.size) => blanks_any s k x hs hk)
  have HE := hide hE
  have HK : Hid (∀ cs, Blk (w.alloc (.cells cs 25)) w.heap.size cs 25) := hide (fun cs => Blk.new _ _ _)
  have HB : Hid (∀ o, Below w.heap.size w (w.alloc o)) := hide (fun o => (Below.refl _ _).alloc (Nat.le_refl _) _)
  have hs' : (s.size : Int) ≤ 16777216 := by omega
  have ha1 : (a : Int) ≤ (E : Int) := by omega
  have ha2 : (E : Int) ≤ (s.size : Int) := by omega
  have ha0 : (0 : Int) ≤ (a : Int) := by omega
  have CI := fun x' => integer_any W x' hWs
  rw [hx] at CI
  generalize (intW W.data.toList).1 = x0 at CI
  have CI := hide CI
  have CP := fun x' => D2.rparse_any W x'
  rw [hy] at CP
  rw [hp] at CP
  have CP := hide CP
  clear hE hx hy
  go_enter Tryz.func55, Tryz.ntmps55
  go_wp2_with (first | (go_at_call 85; refine (CW.out _ _ (by omega)).mono ?_; rintro e w2 ⟨rfl, rfl⟩; rw [HE.out]) | (go_at_call 86; refine (CI.out _).mono ?_; rintro e w2 ⟨rfl, rfl⟩) | (go_at_call 87; refine (CP.out _).mono ?_; rintro e w2 ⟨rfl, hb2⟩; obtain ⟨⟨r0, r1, r2, r3, r4, r5⟩, ⟨y0, y1, y2, y3, y4, y5⟩⟩ := ((HK.out zobj).below hb2).six; have HB3 := hide (below_t5 (HB.out _) hb2); have HK3 := hide ((HK.out zobj).below hb2); clear hb2))
  exact atom_fin (st6_blk HK3.out (.int .i64 3) (.bool false) (.int .i64 x) (.string ⟨#[]⟩) (.slice none 0 0) (.slice none 0 0)) (st6_below HB3.out (Nat.le_refl _) _ _ _ _ _ _) _ rfl rfl rfl rfl
set_option maxRecDepth 8000 in
set_option maxHeartbeats 1000000 in
theorem atom_real0 (s : ByteArray) (a : Nat) (w : World) (hs : s.size ≤ 16777216) (ha : a ≤ s.size) (E : Nat) (hE : wordV s.data.toList a = E) (W : ByteArray) (hW : s.extract a E = W)
    (n0 : (W.toList == [110, 117, 108, 108]) = false) (n1 : (W.toList == [116, 114, 117, 101]) = false) (n2 : (W.toList == [102, 97, 108, 115, 101]) = false) (x : Int) (hx : (intW W.data.toList).2 = false) (hy : D2.parV W.data.toList = x) (hp : D2.parB W.data.toList = true) (hm : (x.tmod 65536 != 0) = false) :
    Calls Tryz.prog 55 #[.string s, .int .i64 a] w fun e w' => e = .returned (.tuple #[ov (zp 3 false x) none 0 none 0 0, .int .i64 E, .bool false]) ∧ Below w.heap.size w w' := by
  have hEb := word_le s a ha
  rw [hE] at hEb
  have hWs := ext_size hs hEb.2 hW
  have CW := hide (fun k x (hk : k ≤ s.size) => word_any s k x hs hk)
  have CB := hide (fun k x (hk : k ≤ s.size) => blanks_any s k x hs hk)
  have HE := hide hE
  have HK : Hid (∀ cs, Blk (w.alloc (.cells cs 25)) w.heap.size cs 25) := hide (fun cs => Blk.new _ _ _)
  have HB : Hid (∀ o, Below w.heap.size w (w.alloc o)) := hide (fun o => (Below.refl _ _).alloc (Nat.le_refl _) _)
  have hs' : (s.size : Int) ≤ 16777216 := by omega
  have ha1 : (a : Int) ≤ (E : Int) := by omega
  have ha2 : (E : Int) ≤ (s.size : Int) := by omega
  have ha0 : (0 : Int) ≤ (a : Int) := by omega
  have CI := fun x' => integer_any W x' hWs
  rw [hx] at CI
  generalize (intW W.data.toList).1 = x0 at CI
  have CI := hide CI
  have CP := fun x' => D2.rparse_any W x'
  rw [hy] at CP
  rw [hp] at CP
  have CP := hide CP
  clear hE hx hy
  go_enter Tryz.func55, Tryz.ntmps55
  go_wp2_with (first | (go_at_call 85; refine (CW.out _ _ (by omega)).mono ?_; rintro e w2 ⟨rfl, rfl⟩; rw [HE.out]) | (go_at_call 86; refine (CI.out _).mono ?_; rintro e w2 ⟨rfl, rfl⟩) | (go_at_call 87; refine (CP.out _).mono ?_; rintro e w2 ⟨rfl, hb2⟩; obtain ⟨⟨r0, r1, r2, r3, r4, r5⟩, ⟨y0, y1, y2, y3, y4, y5⟩⟩ := ((HK.out zobj).below hb2).six; have HB3 := hide (below_t5 (HB.out _) hb2); have HK3 := hide ((HK.out zobj).below hb2); clear hb2))
  exact atom_fin (st6_blk HK3.out (.int .i64 3) (.bool false) (.int .i64 x) (.string ⟨#[]⟩) (.slice none 0 0) (.slice none 0 0)) (st6_below HB3.out (Nat.le_refl _) _ _ _ _ _ _) _ rfl rfl rfl rfl
set_option maxRecDepth 8000 in
set_option maxHeartbeats 1000000 in
theorem atom_bad (s : ByteArray) (a : Nat) (w : World) (hs : s.size ≤ 16777216) (ha : a ≤ s.size) (E : Nat) (hE : wordV s.data.toList a = E) (W : ByteArray) (hW : s.extract a E = W)
    (n0 : (W.toList == [110, 117, 108, 108]) = false) (n1 : (W.toList == [116, 114, 117, 101]) = false) (n2 : (W.toList == [102, 97, 108, 115, 101]) = false) (x : Int) (hx : (intW W.data.toList).2 = false) (hy : D2.parV W.data.toList = x) (hp : D2.parB W.data.toList = false) :
    Calls Tryz.prog 55 #[.string s, .int .i64 a] w fun e w' => e = .returned (.tuple #[ov (zp 3 false x) none 0 none 0 0, .int .i64 E, .bool false]) ∧ Below w.heap.size w w' := by
  have hEb := word_le s a ha
  rw [hE] at hEb
  have hWs := ext_size hs hEb.2 hW
  have CW := hide (fun k x (hk : k ≤ s.size) => word_any s k x hs hk)
  have CB := hide (fun k x (hk : k ≤ s.size) => blanks_any s k x hs hk)
  have HE := hide hE
  have HK : Hid (∀ cs, Blk (w.alloc (.cells cs 25)) w.heap.size cs 25) := hide (fun cs => Blk.new _ _ _)
  have HB : Hid (∀ o, Below w.heap.size w (w.alloc o)) := hide (fun o => (Below.refl _ _).alloc (Nat.le_refl _) _)
  have hs' : (s.size : Int) ≤ 16777216 := by omega
  have ha1 : (a : Int) ≤ (E : Int) := by omega
  have ha2 : (E : Int) ≤ (s.size : Int) := by omega
  have ha0 : (0 : Int) ≤ (a : Int) := by omega
  have CI := fun x' => integer_any W x' hWs
  rw [hx] at CI
  generalize (intW W.data.toList).1 = x0 at CI
  have CI := hide CI
  have CP := fun x' => D2.rparse_any W x'
  rw [hy] at CP
  rw [hp] at CP
  have CP := hide CP
  clear hE hx hy
  go_enter Tryz.func55, Tryz.ntmps55
  go_wp2_with (first | (go_at_call 85; refine (CW.out _ _ (by omega)).mono ?_; rintro e w2 ⟨rfl, rfl⟩; rw [HE.out]) | (go_at_call 86; refine (CI.out _).mono ?_; rintro e w2 ⟨rfl, rfl⟩) | (go_at_call 87; refine (CP.out _).mono ?_; rintro e w2 ⟨rfl, hb2⟩; obtain ⟨⟨r0, r1, r2, r3, r4, r5⟩, ⟨y0, y1, y2, y3, y4, y5⟩⟩ := ((HK.out zobj).below hb2).six; have HB3 := hide (below_t5 (HB.out _) hb2); have HK3 := hide ((HK.out zobj).below hb2); clear hb2))
  exact atom_fin (st6_blk HK3.out (.int .i64 3) (.bool false) (.int .i64 x) (.string ⟨#[]⟩) (.slice none 0 0) (.slice none 0 0)) (st6_below HB3.out (Nat.le_refl _) _ _ _ _ _ _) _ rfl rfl rfl rfl
end Go.Proofs.YtalmcdbdibpgkaaGreatDoor
