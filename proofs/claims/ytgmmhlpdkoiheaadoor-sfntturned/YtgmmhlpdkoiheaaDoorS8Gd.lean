/-
  What the landed directory answers.
-/
import Derived.Test.YtgmmhlpdkoiheaaDoorS8Gt
import Derived.Test.YtgmmhlpdkoiheaaDoorS8Dir
namespace Go.Proofs.YtgmmhlpdkoiheaaDoor
open Go.RowKit Go.Deep
set_option linter.unusedVariables false

def rcs (rs : List Rw) : List Value := rs.flatMap fun r => (rwC r).toList
def zRw : Rw := ⟨0, 0, 0, 0, 0, 0, 0⟩
theorem rcs_len : ∀ rs, (rcs rs).length = rs.length * 7
  | [] => rfl
  | r :: rs => by
    have := rcs_len rs
    unfold rcs at *
    rw [List.flatMap_cons, List.length_append, this, List.length_cons]
    simp
    omega
theorem rcs_app (a b : List Rw) : rcs (a ++ b) = rcs a ++ rcs b := by unfold rcs; simp
theorem rcs_at : ∀ (rs : List Rw) (i : Nat) (r : Rw) (j : Nat), rs[i]? = some r → j < 7 → (rcs rs)[i * 7 + j]? = (rwC r)[j]?
  | [], i, r, j, h, _ => by simp at h
  | q :: rs, 0, r, j, h, hj => by
    simp at h; subst h
    show ((rwC q).toList ++ rcs rs)[0 * 7 + j]? = _
    rw [Nat.zero_mul, Nat.zero_add, List.getElem?_append_left (by simpa using hj)]
    simp
  | q :: rs, i + 1, r, j, h, hj => by
    have ih := rcs_at rs i r j (by simpa using h) hj
    show ((rwC q).toList ++ rcs rs)[(i + 1) * 7 + j]? = _
    rw [List.getElem?_append_right (by simp; omega)]
    rw [← ih]
    congr 1
    simp
    omega
theorem Blk.rows {w : World} {b : Nat} {rs : List Rw} {t : TypeId} (h : Blk w b (rcs rs).toArray t) : RLst w b rs := by
  refine ⟨h.lt, fun i r hi => ?_⟩
  have e : ∀ j, j < 7 → w.cell? ⟨b, i * 7 + j, none⟩ = (rwC r)[j]? := fun j hj => by
    rw [h.cell, List.getElem?_toArray, rcs_at rs i r j hi hj]
  exact ⟨e 0 (by omega), e 1 (by omega), e 2 (by omega), e 3 (by omega), e 4 (by omega), e 5 (by omega), e 6 (by omega)⟩
theorem set7 (A C : List Value) (k : Nat) (hk : A.length = k) (x0 x1 x2 x3 x4 x5 x6 v0 v1 v2 v3 v4 v5 v6 : Value) :
    ((((((((A ++ ([x0, x1, x2, x3, x4, x5, x6] ++ C)).toArray.setIfInBounds k v0).setIfInBounds (k + 1) v1).setIfInBounds (k + 2) v2).setIfInBounds (k + 3) v3).setIfInBounds (k + 4) v4).setIfInBounds (k + 5) v5).setIfInBounds (k + 6) v6) = (A ++ ([v0, v1, v2, v3, v4, v5, v6] ++ C)).toArray := by
  subst hk
  have e : ∀ (L : List Value) (j : Nat) (v : Value), (A ++ L).toArray.setIfInBounds (A.length + j) v = (A ++ L.set j v).toArray := fun L j v => by
    rw [List.setIfInBounds_toArray, List.set_append_right _ _ (by omega), show A.length + j - A.length = j by omega]
  have e0 := e ([x0, x1, x2, x3, x4, x5, x6] ++ C) 0 v0
  rw [Nat.add_zero] at e0
  rw [e0, e, e, e, e, e, e]
  rfl
theorem st7_row {W : World} {b : Nat} {ds rs : List Rw} {z : Rw} {t : TypeId} (k : Nat) (h : Blk W b (rcs (ds ++ z :: rs)).toArray t) (hk : ds.length = k) (r : Rw) :
    Blk (((((((W.setCell ⟨b, k * 7, none⟩ (.int .u8 (r.b0.toNat : Int))).setCell ⟨b, k * 7 + 1, none⟩ (.int .u8 (r.b1.toNat : Int))).setCell ⟨b, k * 7 + 2, none⟩ (.int .u8 (r.b2.toNat : Int))).setCell ⟨b, k * 7 + 3, none⟩ (.int .u8 (r.b3.toNat : Int))).setCell ⟨b, k * 7 + 4, none⟩ (.int .i64 r.sum)).setCell ⟨b, k * 7 + 5, none⟩ (.int .i64 r.pl)).setCell ⟨b, k * 7 + 6, none⟩ (.int .i64 r.ln)) b (rcs (ds ++ r :: rs)).toArray t := by
  have e1 : rcs (ds ++ z :: rs) = rcs ds ++ ([.int .u8 (z.b0.toNat : Int), .int .u8 (z.b1.toNat : Int), .int .u8 (z.b2.toNat : Int), .int .u8 (z.b3.toNat : Int), .int .i64 z.sum, .int .i64 z.pl, .int .i64 z.ln] ++ rcs rs) := by rw [rcs_app]; rfl
  have e2 : rcs (ds ++ r :: rs) = rcs ds ++ ([.int .u8 (r.b0.toNat : Int), .int .u8 (r.b1.toNat : Int), .int .u8 (r.b2.toNat : Int), .int .u8 (r.b3.toNat : Int), .int .i64 r.sum, .int .i64 r.pl, .int .i64 r.ln] ++ rcs rs) := by rw [rcs_app]; rfl
  rw [e1] at h
  rw [e2, ← set7 (rcs ds) (rcs rs) (k * 7) (by rw [rcs_len, hk])]
  exact ((((((h.set _ _).set _ _).set _ _).set _ _).set _ _).set _ _).set _ _
theorem made_at (c : Array Value) (m j : Nat) (h : j < (madeCells c m).size) : (madeCells c m)[j] = c[j % c.size]! := by simp [madeCells]
theorem make_rows (n : Nat) (hn : n ≤ 32) (w : World) : (Instr.makeSlice 49 (.int .i64 (n : Int)) (.int .i64 (n : Int))).run Tryd.prog w = .ok (.slice (some ⟨w.heap.size, 0, none⟩) n n) (w.alloc (.cells (rcs (List.replicate n zRw)).toArray 56)) := by
  obtain ⟨i, hi, hz, h1, h2⟩ := info_parts5 info_row
  have h := run_make (P := Tryd.prog) w 49 56 i _ Tryd.underlying49 hi hz .i64 .i64 (n : Int) (n : Int) (by omega) (by omega) (by rw [h2]; omega) (by omega)
  rw [h1] at h
  rw [Int.toNat_natCast] at h
  have e : madeCells (Value.agg #[.int .u8 0, .int .u8 0, .int .u8 0, .int .u8 0, .int .i64 0, .int .i64 0, .int .i64 0]).cells (n * 7) = (rcs (List.replicate n zRw)).toArray := by
    apply Array.ext (by simp [madeCells, rcs_len])
    intro j h1 h2
    have hj : j < n * 7 := by simpa [madeCells] using h1
    have h3 := rcs_at (List.replicate n zRw) (j / 7) zRw (j % 7) (by rw [List.getElem?_replicate, if_pos (by omega)]) (by omega)
    rw [show j / 7 * 7 + j % 7 = j by omega] at h3
    have h4 : (rcs (List.replicate n zRw)).toArray[j]? = (rwC zRw)[j % 7]? := by rw [List.getElem?_toArray]; exact h3
    rw [Array.getElem?_eq_getElem h2] at h4
    have h5 : j % 7 < (rwC zRw).size := by show j % 7 < 7; omega
    rw [Array.getElem?_eq_getElem h5] at h4
    rw [Option.some.inj h4]
    have hs7 : (Value.agg #[.int .u8 0, .int .u8 0, .int .u8 0, .int .u8 0, .int .i64 0, .int .i64 0, .int .i64 0]).cells.size = 7 := by rfl
    rw [made_at, hs7]
    exact (getElem!_pos (rwC zRw) (j % 7) h5)
  rw [e] at h
  exact h
def DirR (w : World) (s : ByteArray) (e : Ending) (w' : World) : Prop :=
  if hdB s.data.toList = true then ∃ b, e = .returned (.tuple #[.slice (some ⟨b, 0, none⟩) (nTab s.data.toList) (nTab s.data.toList), .bool (riseB [0, 0, 0, 0] (rowsV s.data.toList (nTab s.data.toList)))]) ∧ RLst w' b (rowsV s.data.toList (nTab s.data.toList)) ∧ Below w.heap.size w w'
  else e = .returned (.tuple #[.slice none 0 0, .bool false]) ∧ Below w.heap.size w w'
theorem hd_no {l : List UInt8} (h : ¬ (12 ≤ l.length ∧ 1 ≤ nTab l ∧ nTab l ≤ 32 ∧ l.take 12 = openT (nTab l) ∧ 12 + 16 * nTab l ≤ l.length)) : hdB l = false := by
  cases e : hdB l with
  | false => rfl
  | true =>
    exfalso; apply h
    unfold hdB at e
    rw [Bool.and_eq_true, Bool.and_eq_true, Bool.and_eq_true, Bool.and_eq_true, decide_eq_true_eq, decide_eq_true_eq, decide_eq_true_eq, decide_eq_true_eq, beq_iff_eq] at e
    exact ⟨e.1, e.2.1, e.2.2.1, e.2.2.2.1, e.2.2.2.2⟩
theorem hd_yes {l : List UInt8} (h : 12 ≤ l.length ∧ 1 ≤ nTab l ∧ nTab l ≤ 32 ∧ l.take 12 = openT (nTab l) ∧ 12 + 16 * nTab l ≤ l.length) : hdB l = true := by
  unfold hdB
  rw [Bool.and_eq_true, Bool.and_eq_true, Bool.and_eq_true, Bool.and_eq_true, decide_eq_true_eq, decide_eq_true_eq, decide_eq_true_eq, decide_eq_true_eq, beq_iff_eq]
  exact ⟨h.1, h.2.1, h.2.2.1, h.2.2.2.1, h.2.2.2.2⟩
theorem map_range_succ {α : Type} (f : Nat → α) (k : Nat) : (List.range (k + 1)).map f = (List.range k).map f ++ [f k] := by rw [List.range_succ, List.map_append]; rfl
set_option maxRecDepth 8000 in
set_option maxHeartbeats 4000000 in
theorem directory_any (s : ByteArray) (w : World) (hs : s.size ≤ 1048576) : Calls Tryd.prog 24 #[.string s] w (DirR w s) := by
  have hs' : (s.size : Int) ≤ 1048576 := by omega
  have hlen : s.data.toList.length = s.size := (Lib.size_eq s).symm
  by_cases h12 : s.size < 12
  · have h12' : (s.size : Int) < 12 := by omega
    have HF := hide (hd_no (l := s.data.toList) (fun h => by omega))
    clear hlen hs h12
    go_enter Tryd.func24, Tryd.ntmps24
    go_wp2_with fail
    go_ret2
    unfold DirR
    rw [HF.out]
    exact ⟨rfl, Below.refl _ _⟩
  have h12' : ¬ (s.size : Int) < 12 := by omega
  have z6 : (6 : Int) ≤ (s.size : Int) := by omega
  have z6' : 6 ≤ s.size := by omega
  have z12 : (12 : Int) ≤ (s.size : Int) := by omega
  have z12' : 12 ≤ s.size := by omega
  obtain ⟨n, hn⟩ : ∃ n, nTab s.data.toList = n := ⟨_, rfl⟩
  have hnum : numV (s.extract 4 6).data.toList = n := by rw [slice_list _ _ _ z6', ← hn]; rfl
  have hn16 : n ≤ 65535 := by
    have h1 := numV_lt _ (s.extract 4 6).data.toList rfl
    have h2 : (s.extract 4 6).data.toList.length = 2 := by rw [← Lib.size_eq, ByteArray.size_extract]; omega
    rw [hnum, h2] at h1
    have : (256 : Nat) ^ 2 = 65536 := by decide
    omega
  have hn16' : (n : Int) ≤ 65535 := by omega
  have CN := hide (show ∀ (t : ByteArray) (w : World), t = s.extract 4 6 → Calls Tryd.prog 42 #[.string t] w fun e w' => e = .returned (.int .i64 (n : Int)) ∧ w' = w from fun t w ht => by
    have hh := number_any t w (by rw [ht, ByteArray.size_extract]; omega)
    have e : numV t.data.toList = n := by rw [ht]; exact hnum
    rw [e] at hh
    exact hh)
  have HB := hide (Below.refl w.heap.size w)
  clear hnum
  by_cases q1 : n < 1
  · have q1' : (n : Int) < 1 := by omega
    have HF := hide (hd_no (l := s.data.toList) (fun h => by rw [hn] at h; omega))
    clear hlen hs hn q1
    go_enter Tryd.func24, Tryd.ntmps24
    go_wp2_with (go_at_call 42; refine (CN.out _ _ rfl).mono ?_; rintro e w' ⟨rfl, hw'⟩; replace hw' := hw'.symm; subst hw')
    rename_i kk0
    have HA := hide kk0
    clear kk0
    go_quiet (fail)
    refine HA.out _ _ ?_
    go_wp2_with fail
    go_ret2
    unfold DirR
    rw [HF.out]
    exact ⟨rfl, below_drewN (Below.refl _ _) _⟩
  have q1' : ¬ (n : Int) < 1 := by omega
  have q1d : decide ((n : Int) < 1) = false := by simpa using q1'
  by_cases q2 : 32 < n
  · have q2' : (32 : Int) < (n : Int) := by omega
    have HF := hide (hd_no (l := s.data.toList) (fun h => by rw [hn] at h; omega))
    clear hlen hs hn q1 q2
    go_enter Tryd.func24, Tryd.ntmps24
    go_wp2_with (go_at_call 42; refine (CN.out _ _ rfl).mono ?_; rintro e w' ⟨rfl, hw'⟩; replace hw' := hw'.symm; subst hw')
    rename_i kk0
    have HA := hide kk0
    clear kk0
    go_quiet (fail)
    refine HA.out _ _ ?_
    go_wp2_with fail
    go_ret2
    unfold DirR
    rw [HF.out]
    exact ⟨rfl, below_drewN (Below.refl _ _) _⟩
  have q2' : ¬ (32 : Int) < (n : Int) := by omega
  have q2d : decide ((32 : Int) < (n : Int)) = false := by simpa using q2'
  obtain ⟨OT, hOT⟩ : ∃ OT : ByteArray, (⟨(openT n).toArray⟩ : ByteArray) = OT := ⟨_, rfl⟩
  have CO := hide (show ∀ (w : World), Calls Tryd.prog 43 #[.int .i64 (n : Int)] w fun e w' => e = .returned (.string OT) ∧ Below w.heap.size w w' from fun w => by
    have hh := opening_any n w (by omega) (by omega)
    rw [hOT] at hh
    exact hh)
  have CDn := hide (fun (w : World) => dsize_any (n : Int) w (by omega) (by omega))
  have htk : s.data.toList.take 12 = (s.extract 0 12).data.toList := by rw [slice_list _ _ _ z12', List.drop_zero]
  by_cases q3 : s.extract 0 12 = OT
  case neg =>
    have q3' : ((s.extract 0 12).toList == OT.toList) = false := by
      rw [beq_eq_false_iff_ne, Lib.toList_data, Lib.toList_data]
      intro e
      apply q3
      cases hx : s.extract 0 12 with | mk a => cases hy : OT with | mk b => rw [hx, hy] at e; simp at e; rw [e]
    have HF := hide (hd_no (l := s.data.toList) (fun h => by
      rw [hn, htk] at h
      apply q3
      rw [← hOT, ← h.2.2.2.1]))
    clear hlen hs hn q1 q2 q3 hOT htk
    go_enter Tryd.func24, Tryd.ntmps24
    go_wp2_with (go_at_call 42; refine (CN.out _ _ rfl).mono ?_; rintro e w' ⟨rfl, hw'⟩; replace hw' := hw'.symm; subst hw')
    rename_i kk0
    have HA := hide kk0
    clear kk0
    refine wp_region_held_drew (S := (fun _ => True)) (by kernel_rfl) (trivial) (fun hHeld => ?_)
    refine takeW (i := 0) (d := 13) (v := .int .i64 (n : Int)) rfl rfl (by kernel_rfl) (by kernel_rfl) (by kernel_rfl) (fun _ _ _ h => h) (by rfl) ?_ (by assumption) ?_
    · intro x hSx
      have q0 := hSx
      go_simp
    simp only [Act.put, List.setIfInBounds_toArray, List.set_cons_zero, List.set_cons_succ]
    refine takeW (i := 1) (d := 14) (v := .bool false) rfl rfl (by kernel_rfl) (by kernel_rfl) (by kernel_rfl) (fun _ _ _ h => h) (by rfl) ?_ (by assumption) ?_
    · intro x hSx
      have q0 := hSx
      go_simp
    simp only [Act.put, List.setIfInBounds_toArray, List.set_cons_zero, List.set_cons_succ]
    refine takeW (i := 2) (d := 15) (v := .bool false) rfl rfl (by kernel_rfl) (by kernel_rfl) (by kernel_rfl) (fun _ _ _ h => h) (by rfl) ?_ (by assumption) ?_
    · intro x hSx
      have q0 := hSx
      go_simp
    simp only [Act.put, List.setIfInBounds_toArray, List.set_cons_zero, List.set_cons_succ]
    refine takeW (i := 3) (d := 16) (v := .int .i64 (n : Int)) rfl rfl (by kernel_rfl) (by kernel_rfl) (by kernel_rfl) (fun _ _ _ h => h) (by rfl) ?_ (by assumption) ?_
    · intro x hSx
      have q0 := hSx
      go_simp
    simp only [Act.put, List.setIfInBounds_toArray, List.set_cons_zero, List.set_cons_succ]
    refine takeW (i := 4) (d := 17) (v := .bool false) rfl rfl (by kernel_rfl) (by kernel_rfl) (by kernel_rfl) (fun _ _ _ h => h) (by rfl) ?_ (by assumption) ?_
    · intro x hSx
      have q0 := hSx
      go_simp
    simp only [Act.put, List.setIfInBounds_toArray, List.set_cons_zero, List.set_cons_succ]
    refine takeW (i := 5) (d := 18) (v := .bool false) rfl rfl (by kernel_rfl) (by kernel_rfl) (by kernel_rfl) (fun _ _ _ h => h) (by rfl) ?_ (by assumption) ?_
    · intro x hSx
      have q0 := hSx
      go_simp
    simp only [Act.put, List.setIfInBounds_toArray, List.set_cons_zero, List.set_cons_succ]
    refine takeW (i := 6) (d := 19) (v := .bool false) rfl rfl (by kernel_rfl) (by kernel_rfl) (by kernel_rfl) (fun _ _ _ h => h) (by rfl) ?_ (by assumption) ?_
    · intro x hSx
      have q0 := hSx
      go_simp
    simp only [Act.put, List.setIfInBounds_toArray, List.set_cons_zero, List.set_cons_succ]
    refine takeW (i := 7) (d := 20) (v := .string s) rfl rfl (by kernel_rfl) (by kernel_rfl) (by kernel_rfl) (fun _ _ _ h => h) (by rfl) ?_ (by assumption) ?_
    · intro x hSx
      have q0 := hSx
      go_simp
    simp only [Act.put, List.setIfInBounds_toArray, List.set_cons_zero, List.set_cons_succ]
    refine takeW (i := 8) (d := 21) (v := .string (s.extract 0 12)) rfl rfl (by kernel_rfl) (by kernel_rfl) (by kernel_rfl) (fun _ _ _ h => h) (by rfl) ?_ (by assumption) ?_
    · intro x hSx
      have q0 := hSx
      go_simp
    simp only [Act.put, List.setIfInBounds_toArray, List.set_cons_zero, List.set_cons_succ]
    refine takeW (i := 9) (d := 22) (v := .int .i64 (n : Int)) rfl rfl (by kernel_rfl) (by kernel_rfl) (by kernel_rfl) (fun _ _ _ h => h) (by rfl) ?_ (by assumption) ?_
    · intro x hSx
      have q0 := hSx
      go_simp
    simp only [Act.put, List.setIfInBounds_toArray, List.set_cons_zero, List.set_cons_succ]
    refine wpAnyH_ready (rs := [10]) (by kernel_rfl) (by simp) ?_
    refine AllReadyH.cons rfl (fun K hK => ?_) AllReadyH.nil
    rw [if_pos (by rfl)]
    go_simp
    go_at_call 43
    refine (CO.out _).mono ?_
    rintro e x ⟨rfl, hbx⟩
    replace HB := hide (below_d HB.out hbx rfl rfl rfl rfl)
    clear hbx
    refine hK.out _ _ trivial (fun hHeld => ?_)
    clear hK K
    refine takeW (i := 11) (d := 24) (v := .bool true) rfl rfl (by kernel_rfl) (by kernel_rfl) (by kernel_rfl) (fun _ _ _ h => h) (by rfl) ?_ (by assumption) ?_
    · intro x hSx
      have q0 := hSx
      go_simp
    simp only [Act.put, List.setIfInBounds_toArray, List.set_cons_zero, List.set_cons_succ]
    refine takeW (i := 12) (d := 25) (v := .bool true) rfl rfl (by kernel_rfl) (by kernel_rfl) (by kernel_rfl) (fun _ _ _ h => h) (by rfl) ?_ (by assumption) ?_
    · intro x hSx
      have q0 := hSx
      go_simp
    simp only [Act.put, List.setIfInBounds_toArray, List.set_cons_zero, List.set_cons_succ]
    refine takeW (i := 13) (d := 26) (v := .bool true) rfl rfl (by kernel_rfl) (by kernel_rfl) (by kernel_rfl) (fun _ _ _ h => h) (by rfl) ?_ (by assumption) ?_
    · intro x hSx
      have q0 := hSx
      go_simp
    simp only [Act.put, List.setIfInBounds_toArray, List.set_cons_zero, List.set_cons_succ]
    refine takeN (i := 14) (d := 27) rfl rfl (by kernel_rfl) (by kernel_rfl) (by kernel_rfl) (fun _ _ _ h => h) (by rfl) (by assumption) ?_
    simp only [Act.put, List.setIfInBounds_toArray, List.set_cons_zero, List.set_cons_succ]
    refine takeN (i := 15) (d := 28) rfl rfl (by kernel_rfl) (by kernel_rfl) (by kernel_rfl) (fun _ _ _ h => h) (by rfl) (by assumption) ?_
    simp only [Act.put, List.setIfInBounds_toArray, List.set_cons_zero, List.set_cons_succ]
    refine takeN (i := 16) (d := 29) rfl rfl (by kernel_rfl) (by kernel_rfl) (by kernel_rfl) (fun _ _ _ h => h) (by rfl) (by assumption) ?_
    simp only [Act.put, List.setIfInBounds_toArray, List.set_cons_zero, List.set_cons_succ]
    refine takeN (i := 17) (d := 30) rfl rfl (by kernel_rfl) (by kernel_rfl) (by kernel_rfl) (fun _ _ _ h => h) (by rfl) (by assumption) ?_
    simp only [Act.put, List.setIfInBounds_toArray, List.set_cons_zero, List.set_cons_succ]
    refine takeN (i := 18) (d := 31) rfl rfl (by kernel_rfl) (by kernel_rfl) (by kernel_rfl) (fun _ _ _ h => h) (by rfl) (by assumption) ?_
    simp only [Act.put, List.setIfInBounds_toArray, List.set_cons_zero, List.set_cons_succ]
    refine takeW (i := 19) (d := 32) (v := .bool true) rfl rfl (by kernel_rfl) (by kernel_rfl) (by kernel_rfl) (fun _ _ _ h => h) (by rfl) ?_ (by assumption) ?_
    · intro x hSx
      have q0 := hSx
      go_simp
    simp only [Act.put, List.setIfInBounds_toArray, List.set_cons_zero, List.set_cons_succ]
    refine wpAnyH_done (by kernel_rfl) ?_ _
    all_goals
      refine HA.out _ _ ?_
      go_wp2_with fail
      go_ret2
      unfold DirR
      rw [HF.out]
      exact ⟨rfl, below_d HB.out (Below.refl _ _) rfl rfl rfl rfl⟩
  have q3' : ((s.extract 0 12).toList == OT.toList) = true := by rw [q3]; simp
  by_cases q4 : s.size < 12 + 16 * n
  · have q4' : (s.size : Int) < 12 + 16 * (n : Int) := by omega
    have q4d : decide ((s.size : Int) < 12 + 16 * (n : Int)) = true := by simpa using q4'
    have HF := hide (hd_no (l := s.data.toList) (fun h => by rw [hn] at h; omega))
    clear hlen hs hn q1 q2 q3 q4 hOT htk
    go_enter Tryd.func24, Tryd.ntmps24
    go_wp2_with (go_at_call 42; refine (CN.out _ _ rfl).mono ?_; rintro e w' ⟨rfl, hw'⟩; replace hw' := hw'.symm; subst hw')
    rename_i kk0
    have HA := hide kk0
    clear kk0
    go_region_held3 (fun _ => True) (first | trivial | go_keep) ((first | (go_at_call 43; refine (CO.out _).mono ?_; rintro e x ⟨rfl, hbx⟩; replace HB := hide (below_d HB.out hbx rfl rfl rfl rfl); clear hbx) | (go_at_call 44; refine (CDn.out _).mono ?_; rintro e x ⟨rfl, rfl⟩)))
    all_goals
      refine HA.out _ _ ?_
      go_wp2_with fail
      go_ret2
      unfold DirR
      rw [HF.out]
      exact ⟨rfl, below_d HB.out (Below.refl _ _) rfl rfl rfl rfl⟩
  have q4' : ¬ (s.size : Int) < 12 + 16 * (n : Int) := by omega
  have q4d : decide ((s.size : Int) < 12 + 16 * (n : Int)) = false := by simpa using q4'
  have HT := hide (hd_yes (l := s.data.toList) ⟨by omega, by omega, by omega, by rw [hn, htk, ← hOT] at *; rw [q3], by rw [hn]; omega⟩)
  have HN := hide hn
  have CDk := hide (fun (k : Nat) (w : World) (hk : k ≤ 32) => dsize_any (k : Int) w (by omega) (by omega))
  have CR := hide (show ∀ (k : Nat) (t : ByteArray) (w : World), k < n → t = s.extract (12 + 16 * k) s.size → Calls Tryd.prog 45 #[.string t] w fun e w' => e = .returned (.agg (rwC (rwAt s.data.toList k))) ∧ Below w.heap.size w w' from fun k t w hk ht => by
    have hh := rowOf_any t w (by rw [ht, ByteArray.size_extract]; omega) (by rw [ht, ByteArray.size_extract]; omega)
    have e : t.data.toList = s.data.toList.drop (12 + 16 * k) := by
      rw [ht, slice_list _ _ _ (Nat.le_refl _), List.take_of_length_le (by rw [List.length_drop]; omega)]
    rw [e] at hh
    exact hh)
  have CT := hide (fun b w h => tagsRise_any (rowsV s.data.toList n) b n n w (rowsV_len _ _) (by omega) h)
  have hmk := fun x => make_rows n (by omega) x
  have HQ4 := hide q4
  have HN32 := hide (show n ≤ 32 by omega)
  clear hlen hs hn q1 q2 q3 q4 hOT htk
  go_enter Tryd.func24, Tryd.ntmps24
  go_wp2_with (go_at_call 42; refine (CN.out _ _ rfl).mono ?_; rintro e w' ⟨rfl, hw'⟩; replace hw' := hw'.symm; subst hw')
  rename_i kk0
  have HA := hide kk0
  clear kk0
  go_region_held3 (fun _ => True) (first | trivial | go_keep) ((first | (go_at_call 43; refine (CO.out _).mono ?_; rintro e x ⟨rfl, hbx⟩; replace HB := hide (below_d HB.out hbx rfl rfl rfl rfl); clear hbx) | (go_at_call 44; refine (CDn.out _).mono ?_; rintro e x ⟨rfl, rfl⟩)))
  refine HA.out _ _ ?_
  clear HA
  have hx0 := below_d HB.out (Below.refl x.heap.size x) rfl rfl rfl rfl
  have HX0 := hide hx0
  clear hx0
  go_wp2_with fail
  go_loopw [37] (fun vi wr => ∃ k : Nat, vi = .int .i64 k ∧ Hid (k ≤ n ∧ Blk wr x.heap.size (rcs ((List.range k).map (rwAt s.data.toList) ++ List.replicate (n - k) zRw)).toArray 56 ∧ Below w.heap.size w wr)) (fun vi _ => n - (intOf vi).toNat)
  case atStart => exact ⟨0, rfl, hide ⟨by omega, Blk.new _ _ _, HX0.out.alloc HX0.out.size _⟩⟩
  case round =>
    obtain ⟨k, rfl, HV⟩ := hrel
    obtain ⟨hk, hK, hbw⟩ := HV.out
    have hk0 : (0 : Int) ≤ (k : Int) := by omega
    clear HV hmk
    by_cases hlt : k < n
    case neg =>
      have hlt' : ¬ (k : Int) < (n : Int) := by omega
      obtain rfl : k = n := by omega
      rw [Nat.sub_self, List.replicate_zero, List.append_nil] at hK
      have hRL : RLst wr x.heap.size (rowsV s.data.toList k) := hK.rows
      have CT1 := hide (CT.out x.heap.size wr hRL)
      have HRL := hide hRL
      have HBW := hide hbw
      clear hK hbw hRL hlt
      go_wp2_with (go_at_call 46; refine CT1.out.mono ?_; rintro e w9 ⟨rfl, h9⟩)
      go_ret2
      unfold DirR
      rw [HT.out, HN.out]
      exact ⟨x.heap.size, rfl, HRL.out.below h9, below_t5 HBW.out h9⟩
    have hlt' : (k : Int) < (n : Int) := by omega
    have e0 : (List.range k).map (rwAt s.data.toList) ++ List.replicate (n - k) zRw = (List.range k).map (rwAt s.data.toList) ++ zRw :: List.replicate (n - (k + 1)) zRw := by
      rw [show n - k = (n - (k + 1)) + 1 by omega, List.replicate_succ]
    rw [e0] at hK
    have t1 : ((12 : Int) + 16 * (k : Int)).toNat = 12 + 16 * k := by omega
    have t2 : (12 : Int) + 16 * (k : Int) ≤ (s.size : Int) := by have := HQ4.out; omega
    have t3 : (0 : Int) ≤ (12 : Int) + 16 * (k : Int) := by omega
    have t4 : 12 + 16 * k ≤ s.size := by have := HQ4.out; omega
    have CK := hide (fun w => CDk.out k w (by have := HN32.out; omega))
    have CRk := hide (fun t w ht => CR.out k t w hlt ht)
    obtain ⟨r, hr⟩ : ∃ r, rwAt s.data.toList k = r := ⟨_, rfl⟩
    rw [hr] at CRk
    have HR := hide hr
    have HKK := hide hK
    have HBW := hide hbw
    clear hr hK hbw e0 hlt
    go_wp2_with fail
    refine (CK.out _).mono ?_
    rintro e w1 ⟨rfl, hw1⟩
    replace hw1 := hw1.symm
    subst hw1
    go_wp2_with fail
    refine (CRk.out _ _ rfl).mono ?_
    rintro e y ⟨rfl, hy⟩
    have ky := HKK.out.below hy
    have hbx := ky.lt
    obtain ⟨g0, g1, g2, g3, g4, g5, g6⟩ := ky.rows.2 k zRw (by rw [List.getElem?_append_right (by simp)]; simp)
    have f0 := ky.frozen (k * 7)
    have f1 := ky.frozen (k * 7 + 1)
    have f2 := ky.frozen (k * 7 + 2)
    have f3 := ky.frozen (k * 7 + 3)
    have f4 := ky.frozen (k * 7 + 4)
    have f5 := ky.frozen (k * 7 + 5)
    have f6 := ky.frozen (k * 7 + 6)
    have HKY := hide ky
    have HBY := hide (below_t5 HBW.out hy)
    have HXS := hide HX0.out.size
    clear hy ky
    go_wp2_with fail
    go_roundw
    case rel =>
      refine ⟨k + 1, by go_num, hide ⟨by omega, ?_, ?_⟩⟩
      · have h := st7_row k HKY.out (by simp) r
        rw [map_range_succ, HR.out, List.append_assoc]
        exact h
      · exact ((((((HBY.out.setCell (p := ⟨x.heap.size, k * 7, none⟩) HXS.out _).setCell (p := ⟨x.heap.size, k * 7 + 1, none⟩) HXS.out _).setCell (p := ⟨x.heap.size, k * 7 + 2, none⟩) HXS.out _).setCell (p := ⟨x.heap.size, k * 7 + 3, none⟩) HXS.out _).setCell (p := ⟨x.heap.size, k * 7 + 4, none⟩) HXS.out _).setCell (p := ⟨x.heap.size, k * 7 + 5, none⟩) HXS.out _).setCell (p := ⟨x.heap.size, k * 7 + 6, none⟩) HXS.out _
    case measure => simp [intOf]; omega
end Go.Proofs.YtgmmhlpdkoiheaaDoor
