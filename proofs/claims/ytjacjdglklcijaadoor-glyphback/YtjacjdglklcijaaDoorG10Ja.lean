/-
  Outlines put together, in plain words; what lacking, appendPlace and the reference's Two, Four, Pad answer.
-/
import Derived.Test.YtjacjdglklcijaaDoorG10J0
import Derived.Test.YtjacjdglklcijaaDoorG10Sa
namespace Go.Proofs.YtjacjdglklcijaaDoor
open Go.RowKit Go.Deep
set_option linter.unusedVariables false
set_option linter.unusedSimpArgs false

def byI (x d : Int) : UInt8 := UInt8.ofNat (x / d % 256).toNat
theorem byI_cell (x d : Int) : bcell (byI x d) = .int .u8 (x / d % 256) := by
  unfold bcell byI
  have h0 : 0 ≤ x / d % 256 := Int.emod_nonneg _ (by omega)
  have h1 : x / d % 256 < 256 := Int.emod_lt_of_pos _ (by omega)
  rw [UInt8.toNat_ofNat']
  congr 1
  omega
def p4 (x : Int) : List UInt8 := [byI x 16777216, byI x 65536, byI x 256, byI x 1]
def lck (n : Nat) : Nat := (4 - n % 4) % 4
def pdT (l : List UInt8) : List UInt8 := l ++ List.replicate (lck l.length) 0
theorem pdT_len (l : List UInt8) : (pdT l).length = l.length + lck l.length := by unfold pdT; simp
def jg (ss : List ByteArray) : List UInt8 := ss.flatMap fun s => pdT s.data.toList
def jl : Nat → List ByteArray → List UInt8
  | _, [] => []
  | a, s :: ss => p4 (a : Int) ++ jl (a + (pdT s.data.toList).length) ss
theorem jg_snoc (ss : List ByteArray) (s : ByteArray) : jg (ss ++ [s]) = jg ss ++ pdT s.data.toList := by unfold jg; simp
theorem jl_snoc : ∀ (ss : List ByteArray) (a : Nat) (s : ByteArray), jl a (ss ++ [s]) = jl a ss ++ p4 ((a + (jg ss).length : Nat) : Int)
  | [], a, s => by simp [jl, jg]
  | t :: ss, a, s => by
    rw [List.cons_append, jl, jl, jl_snoc ss _ s, List.append_assoc]
    have : jg (t :: ss) = pdT t.data.toList ++ jg ss := by unfold jg; simp
    rw [this, List.length_append, Nat.add_assoc]
theorem jg_take (ss : List ByteArray) (k : Nat) : (jg (ss.take k)).length ≤ (jg ss).length := by
  conv => rhs; rw [← List.take_append_drop k ss]
  unfold jg
  rw [List.flatMap_append, List.length_append]
  omega
theorem take_s (ss : List ByteArray) (k : Nat) (h : k < ss.length) : ss.take (k + 1) = ss.take k ++ [ss.getD k ⟨#[]⟩] := by
  rw [List.take_succ_eq_append_getElem h, List.getD_eq_getElem?_getD, List.getElem?_eq_getElem h]; rfl
theorem lack_any (n : Nat) (w : World) (hn : n ≤ 1000000000) : Calls Tryd.prog 16 #[.int .i64 (n : Int)] w fun e w' => e = .returned (.int .i64 ((lck n : Nat) : Int)) ∧ w' = w := by
  have h0 : (0 : Int) ≤ (n : Int) := by omega
  have h1 : (n : Int) ≤ 1000000000 := by omega
  have e : (4 - (n : Int) % 4) % 4 = ((lck n : Nat) : Int) := by unfold lck; omega
  have HE := hide e
  clear e
  go_enter Tryd.func16, Tryd.ntmps16
  go_wp2_with fail
  go_ret
  exact ⟨by rw [← HE.out]; rfl, rfl⟩
def PlR (B : Nat) (w : World) (v : Value) (ys : List UInt8) (e : Ending) (w' : World) : Prop := ∃ v' W1, e = .returned v' ∧ Below w.heap.size w W1 ∧ Grew W1 w' B v v' ys
set_option maxRecDepth 8000 in
theorem place_any (v : Value) (ys : List UInt8) (x B : Nat) (w : World) (hx : x ≤ 1000000000) (h : BRow w B v ys) (hB : B ≤ w.heap.size) (hl : ys.length ≤ 1000000000) :
    Calls Tryd.prog 17 #[v, .int .i64 (x : Int)] w (PlR B w v (ys ++ p4 (x : Int))) := by
  obtain ⟨v', w2, hr, hg⟩ := app_b4 (p4 (x : Int)) h hB (by simp [p4]) (by simp [p4]; omega) _ rfl
  have ec : (p4 (x : Int)).map bcell = [.int .u8 ((x : Int) / 16777216), .int .u8 ((x : Int) / 65536 % 256), .int .u8 ((x : Int) / 256 % 256), .int .u8 ((x : Int) % 256)] := by
    unfold p4
    simp only [List.map_cons, List.map_nil, byI_cell, Int.ediv_one]
    rw [show (x : Int) / 16777216 % 256 = (x : Int) / 16777216 by omega]
  have el : (p4 (x : Int)).length = 4 := rfl
  have HB := hide ((Below.refl w.heap.size w).alloc (Nat.le_refl _) (.cells ((p4 (x : Int)).map bcell).toArray 5))
  rw [el] at hr
  have HG := hide hg
  rw [ec] at hr HB HG
  have HR := hide hr
  have h0 : (0 : Int) ≤ (x : Int) := by omega
  have h1 : (x : Int) ≤ 1000000000 := by omega
  clear hr hg ec el h hB hl hx
  go_enter Tryd.func17, Tryd.ntmps17
  go_wp2_with (at_builtin; refine Lib.wpList_append_run _ rfl _ _ _ _ rfl _ _ rfl rfl _ _ HR.out ?_)
  go_ret
  exact ⟨_, _, rfl, HB.out, HG.out⟩
theorem jtwo_any (x : Int) (w : World) (h0 : -4611686018427387904 ≤ x) (h1 : x ≤ 4611686018427387904) : Calls Tryd.prog 24 #[.int .i64 x] w fun e w' => e = .returned (.string ⟨[byI x 256, byI x 1].toArray⟩) ∧ Below w.heap.size w w' := by
  have CV : (convert 42 9 (.slice (some ⟨w.heap.size, 0, none⟩) 2 2)).run Tryd.prog (w.alloc (.cells #[.int .u8 (x / 256 % 256), .int .u8 (x % 256)] 5)) = .ok (.string ⟨[byI x 256, byI x 1].toArray⟩) (w.alloc (.cells #[.int .u8 (x / 256 % 256), .int .u8 (x % 256)] 5)) := by
    refine run_convert_bytes_back (P := Tryd.prog) _ 42 9 5 ⟨w.heap.size, 0, none⟩ 2 [byI x 256, byI x 1] Tryd.underlying42 Tryd.underlying5 Tryd.underlying9 ?_
    intro j hj
    rw [Go.WideShapes.add_plain, Nat.zero_add, World.cell?_alloc_at _ _ _ _ rfl]
    have e1 := byI_cell x 256
    have e2 := byI_cell x 1
    rw [Int.ediv_one] at e2
    unfold bcell at e1 e2
    match j, hj with
    | 0, _ => exact congrArg some e1.symm
    | 1, _ => exact congrArg some e2.symm
  have HB := hide ((Below.refl w.heap.size w).alloc (Nat.le_refl _) (.cells #[.int .u8 (x / 256 % 256), .int .u8 (x % 256)] 5))
  generalize (⟨[byI x 256, byI x 1].toArray⟩ : ByteArray) = T at CV ⊢
  go_enter Tryd.func24, Tryd.ntmps24
  go_wp2_with fail
  go_ret
  exact ⟨rfl, HB.out⟩
theorem jfour_any (x : Int) (w : World) (h0 : 0 ≤ x) (h1 : x ≤ 4611686018427387904) : Calls Tryd.prog 18 #[.int .i64 x] w fun e w' => e = .returned (.string ⟨(p4 x).toArray⟩) ∧ Below w.heap.size w w' := by
  have C1 := hide (fun w => jtwo_any (x / 65536) w (by omega) (by omega))
  have C2 := hide (fun w => jtwo_any x w (by omega) h1)
  have ep : ([byI (x / 65536) 256, byI (x / 65536) 1] : List UInt8) ++ [byI x 256, byI x 1] = p4 x := by
    unfold p4 byI
    rw [Int.ediv_ediv_of_nonneg (by omega), Int.ediv_one, Int.ediv_one]
    rfl
  have hc : ∀ w, (Op.stringOp .add (⟨[byI (x / 65536) 256, byI (x / 65536) 1].toArray⟩ : ByteArray) (⟨[byI x 256, byI x 1].toArray⟩ : ByteArray)).run Tryd.prog w = .ok (.string ⟨(p4 x).toArray⟩) w := fun w => by
    have := run_string_add_sum (P := Tryd.prog) w (⟨[byI (x / 65536) 256, byI (x / 65536) 1].toArray⟩ : ByteArray) (⟨[byI x 256, byI x 1].toArray⟩ : ByteArray) (by show 2 + 2 ≤ _; omega)
    rw [this, ← ep]
    rfl
  generalize (⟨[byI (x / 65536) 256, byI (x / 65536) 1].toArray⟩ : ByteArray) = A at *
  generalize (⟨[byI x 256, byI x 1].toArray⟩ : ByteArray) = B at *
  generalize (⟨(p4 x).toArray⟩ : ByteArray) = T at *
  clear h1 ep
  go_enter Tryd.func18, Tryd.ntmps18
  go_wp2_with fail
  refine (C1.out _).mono ?_
  rintro e w1 ⟨rfl, hb1⟩
  have B1 := hide hb1
  clear hb1
  go_wp2_with fail
  refine (C2.out _).mono ?_
  rintro e w2 ⟨rfl, hb2⟩
  have B2 := hide (B1.out.trans (hb2.mono B1.out.size))
  clear hb2
  go_wp2_with fail
  go_ret
  exact ⟨rfl, B2.out⟩
abbrev zS : ByteArray := ⟨#[0]⟩
theorem zS_app (s : ByteArray) : (s ++ zS).size = s.size + 1 := by rw [ByteArray.size_append]; rfl
theorem zS_list (s : ByteArray) : (s ++ zS).data.toList = s.data.toList ++ [0] := by rw [ByteArray.data_append, Array.toList_append]
set_option maxHeartbeats 1000000 in
theorem jpad_any (s : ByteArray) (w : World) (hs : s.size ≤ 2000000) :
    Calls Tryd.prog 19 #[.string s] w fun e w' => ∃ p : ByteArray, e = .returned (.string p) ∧ p.data.toList = pdT s.data.toList ∧ w' = w := by
  have hs' : (s.size : Int) ≤ 2000000 := by omega
  have hl : s.data.toList.length = s.size := (Lib.size_eq s).symm
  obtain ⟨p1, h1⟩ : ∃ p, s ++ zS = p := ⟨_, rfl⟩
  obtain ⟨p2, h2⟩ : ∃ p, p1 ++ zS = p := ⟨_, rfl⟩
  obtain ⟨p3, h3⟩ : ∃ p, p2 ++ zS = p := ⟨_, rfl⟩
  have z1 : p1.size = s.size + 1 := by rw [← h1, zS_app]
  have z2 : p2.size = s.size + 2 := by rw [← h2, zS_app, z1]
  have z3 : p3.size = s.size + 3 := by rw [← h3, zS_app, z2]
  have l1 : p1.data.toList = s.data.toList ++ [0] := by rw [← h1, zS_list]
  have l2 : p2.data.toList = s.data.toList ++ [0, 0] := by rw [← h2, zS_list, l1]; simp
  have l3 : p3.data.toList = s.data.toList ++ [0, 0, 0] := by rw [← h3, zS_list, l2]; simp
  have b1 : (p1.size : Int) ≤ 2000010 := by omega
  have b2 : (p2.size : Int) ≤ 2000010 := by omega
  have b3 : (p3.size : Int) ≤ 2000010 := by omega
  have hr : s.size % 4 = 0 ∨ s.size % 4 = 1 ∨ s.size % 4 = 2 ∨ s.size % 4 = 3 := by omega
  rcases hr with hr | hr | hr | hr
  · have e : s.data.toList = pdT s.data.toList := by unfold pdT lck; rw [hl, hr]; simp
    have m0 : (s.size : Int) % 4 = 0 := by omega
    have E := hide e
    clear z1 z2 z3 l1 l2 l3 h1 h2 h3 hl hr e
    go_enter Tryd.func19, Tryd.ntmps19
    go_wp2_with fail
    refine wp_loop_rounds 1 ?_
    rw [rounds_succ]; go_wp2_with fail
    go_ret
    exact ⟨_, rfl, E.out, rfl⟩
  · have e : p3.data.toList = pdT s.data.toList := by rw [l3]; unfold pdT lck; rw [hl, hr]; rfl
    have m0 : (s.size : Int) % 4 = 1 := by omega
    have m1 : (p1.size : Int) % 4 = 2 := by omega
    have m2 : (p2.size : Int) % 4 = 3 := by omega
    have m3 : (p3.size : Int) % 4 = 0 := by omega
    have E := hide e
    clear z1 z2 z3 l1 l2 l3 hl hr e
    go_enter Tryd.func19, Tryd.ntmps19
    go_wp2_with fail
    refine wp_loop_rounds 4 ?_
    rw [rounds_succ]; go_wp2_with fail
    rw [rounds_succ]; go_wp2_with fail
    rw [rounds_succ]; go_wp2_with fail
    rw [rounds_succ]; go_wp2_with fail
    go_ret
    exact ⟨_, rfl, E.out, rfl⟩
  · have e : p2.data.toList = pdT s.data.toList := by rw [l2]; unfold pdT lck; rw [hl, hr]; rfl
    have m0 : (s.size : Int) % 4 = 2 := by omega
    have m1 : (p1.size : Int) % 4 = 3 := by omega
    have m2 : (p2.size : Int) % 4 = 0 := by omega
    have E := hide e
    clear z1 z2 z3 l1 l2 l3 hl hr e
    go_enter Tryd.func19, Tryd.ntmps19
    go_wp2_with fail
    refine wp_loop_rounds 3 ?_
    rw [rounds_succ]; go_wp2_with fail
    rw [rounds_succ]; go_wp2_with fail
    rw [rounds_succ]; go_wp2_with fail
    go_ret
    exact ⟨_, rfl, E.out, rfl⟩
  · have e : p1.data.toList = pdT s.data.toList := by rw [l1]; unfold pdT lck; rw [hl, hr]; rfl
    have m0 : (s.size : Int) % 4 = 3 := by omega
    have m1 : (p1.size : Int) % 4 = 0 := by omega
    have E := hide e
    clear z1 z2 z3 l1 l2 l3 hl hr e
    go_enter Tryd.func19, Tryd.ntmps19
    go_wp2_with fail
    refine wp_loop_rounds 2 ?_
    rw [rounds_succ]; go_wp2_with fail
    rw [rounds_succ]; go_wp2_with fail
    go_ret
    exact ⟨_, rfl, E.out, rfl⟩
end Go.Proofs.YtjacjdglklcijaaDoor
