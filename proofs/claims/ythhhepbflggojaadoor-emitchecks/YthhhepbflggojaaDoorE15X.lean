/-
  What the writer's box, fill, clip, end answer.
-/
import Derived.Test.YthhhepbflggojaaDoorE15L
import Derived.Deep.RegionHeld3
namespace Go.Proofs.YthhhepbflggojaaDoor.E15
open Go.RowKit Go.Deep
set_option linter.unusedVariables false
set_option linter.unusedSimpArgs false
set_option maxRecDepth 8000

theorem fdig_len : ∀ f r, (D2.fdig f r).length ≤ f + 1 := by
  intro f
  induction f with
  | zero => intro r; unfold D2.fdig; simp
  | succ f ih => intro r; unfold D2.fdig; split <;> simp; exact ih _
theorem numT_len (x : Int) : (numT x).length ≤ 40 := by
  unfold numT
  split
  · rename_i h
    have hb := inB_bd h
    unfold D2.textL D2.frac
    have h1 := D2.dec_len (x.natAbs / 65536) (by omega)
    have h2 := fdig_len 16 (x.natAbs % 65536)
    rw [List.length_append, List.length_append]
    split <;> split <;> simp <;> omega
  · simp
theorem ba2 {V u : World} (h : Below V.heap.size V u) (o : Obj) : Below V.heap.size V (u.alloc o) := h.alloc h.size o
theorem blk_d {w : World} {b : Nat} {cs : Array Value} {t : TypeId} (h : Blk w b cs t) : Blk w.drew b cs t := h
theorem blk_a {w : World} {b : Nat} {cs : Array Value} {t : TypeId} (h : Blk w b cs t) (o : Obj) : Blk (w.alloc o) b cs t := h.below ((Below.refl _ _).alloc (Nat.le_refl _) _)
theorem tr_ne : (36 : TypeId) ≠ 5 := by decide
/- texts laid for a call -/
theorem SL.new (u : World) (xs : List ByteArray) : SL (u.alloc (.cells (xs.map Value.string).toArray 9)) u.heap.size 0 xs := by
  have k := Blk.new u (xs.map Value.string).toArray 9
  refine ⟨k.lt, fun j x hx => ?_⟩
  rw [Nat.zero_add, k.cell]
  simp [hx]
/- a line of texts that are laid for it -/
theorem line_new (B b : Nat) (F : List UInt8) (n : Nat) (xs : List ByteArray) (T : List UInt8) (u : World) (h : WSt u B b F) (hn : xs.length = n) (hN : n ≤ 1000) (hT : joinT xs ++ [10] = T) (hl : F.length + T.length ≤ 1000000000) :
    Calls Tryd.prog 46 #[.pointer (some ⟨b, 0, none⟩), .slice (some ⟨u.heap.size, 0, none⟩) n n] (u.alloc (.cells (xs.map Value.string).toArray 9)) fun e w' => e = .returned (.tuple #[]) ∧ WSt w' B b (F ++ T) ∧ PK B b u w' := by
  have hal := (Below.refl u.heap.size u).alloc (Nat.le_refl _) (.cells (xs.map Value.string).toArray 9)
  refine (line_any B b F u.heap.size 0 n n xs _ (h.below hal) (SL.new u xs) hn hN (Nat.le_refl _) (by have := congrArg List.length hT; simp at this; omega)).mono ?_
  rintro e w' ⟨h1, h2, h3⟩
  exact ⟨h1, by rw [← hT, ← List.append_assoc]; exact h2, (PK.of_below hal h.hB).trans h3⟩
def bxT (r0 r1 r2 r3 : Int) : List UInt8 := numT r0 ++ [32] ++ numT r1 ++ [32] ++ numT (r2 - r0) ++ [32] ++ numT (r3 - r1) ++ [32, 114, 101, 10]
theorem bxT_len (r0 r1 r2 r3 : Int) : (bxT r0 r1 r2 r3).length ≤ 200 := by
  unfold bxT
  have h0 := numT_len r0
  have h1 := numT_len r1
  have h2 := numT_len (r2 - r0)
  have h3 := numT_len (r3 - r1)
  simp only [List.length_append, List.length_cons, List.length_nil]
  omega
set_option maxHeartbeats 8000000 in
theorem box_any (B b : Nat) (F : List UInt8) (r0 r1 r2 r3 : Int) (w : World) (h : WSt w B b F) (hg : D2.Glo w) (hm : R3.mayB r0 r1 r2 r3 = true) (hl : F.length ≤ 900000000) :
    Calls Tryd.prog 50 #[.pointer (some ⟨b, 0, none⟩), .agg #[.int .i64 r0, .int .i64 r1, .int .i64 r2, .int .i64 r3]] w fun e w' => e = .returned (.tuple #[]) ∧ WSt w' B b (F ++ bxT r0 r1 r2 r3) ∧ PK B b w w' := by
  obtain ⟨⟨l0, u0⟩, ⟨l1, u1⟩, ⟨l2, u2⟩, ⟨l3, u3⟩, _, _⟩ := R3.mayB_bd hm
  have e20 : IntKind.i64.wrap (r2 - r0) = r2 - r0 := by rw [IntKind.wrap_i64]; omega
  have e31 : IntKind.i64.wrap (r3 - r1) = r3 - r1 := by rw [IntKind.wrap_i64]; omega
  clear l0 u0 l1 u1 l2 u2 l3 u3 hm
  have hb := (Below.refl w.heap.size w).alloc (Nat.le_refl _) (.cells #[.int .i64 r0, .int .i64 r1, .int .i64 r2, .int .i64 r3] 36)
  have k1 := Blk.new w #[.int .i64 r0, .int .i64 r1, .int .i64 r2, .int .i64 r3] 36
  obtain ⟨FV, hFV⟩ : ∃ FV : Int → ByteArray, FV = fun x => ⟨(numT x).toArray⟩ := ⟨_, rfl⟩
  have hFd : ∀ x, (FV x).data.toList = numT x := fun x => by rw [hFV]
  have hT : joinT [FV r0, FV r1, FV (r2 - r0), FV (r3 - r1), ⟨#[114, 101]⟩] ++ [10] = bxT r0 r1 r2 r3 := by
    unfold joinT bxT Lib.join
    simp [hFd, List.intercalate, List.intersperse]
  have CN := hide (fun (x : Int) (u : World) (hu : Below w.heap.size w u) => number_any x u (hg.below hu))
  have CL := hide (fun (u : World) (hu : Below w.heap.size w u) => line_new B b F 5 [FV r0, FV r1, FV (r2 - r0), FV (r3 - r1), ⟨#[114, 101]⟩] _ u (h.below hu) rfl (by omega) hT (by have := bxT_len r0 r1 r2 r3; omega))
  simp only [List.map_cons, List.map_nil] at CL
  have CN2 : Hid (∀ (x : Int) (u : World), Below w.heap.size w u → Calls Tryd.prog 48 #[.int .i64 x] u fun e w' => e = .returned (.string (FV x)) ∧ Below u.heap.size u w') := hide (fun x u hu => by rw [hFV]; exact CN.out x u hu)
  have blt := h.lt
  have hBw := h.hB
  have HBB := hide hBw
  have HNE : Hid (w.heap.size ≠ b) := hide (by omega)
  generalize bxT r0 r1 r2 r3 = T at *
  clear CN hFV hFd hT h hg hl hBw
  go_enter Tryd.func50, Tryd.ntmps50
  go_wp2_with fail
  obtain ⟨R, hR⟩ : ∃ R, w.heap.size = R := ⟨_, rfl⟩
  have HX0 := hide hb
  rw [hR] at k1
  have HK := hide k1
  generalize w.alloc (.cells #[.int .i64 r0, .int .i64 r1, .int .i64 r2, .int .i64 r3] 36) = V at HX0 HK ⊢
  simp only [hR]
  have HRR := hide hR
  have HX := HX0
  have KS : Hid (∀ x, Blk x R #[.int .i64 r0, .int .i64 r1, .int .i64 r2, .int .i64 r3] 36 → R < x.heap.size ∧ x.cell? ⟨R, 0, none⟩ = some (.int .i64 r0) ∧ x.cell? ⟨R, 1, none⟩ = some (.int .i64 r1) ∧ x.cell? ⟨R, 2, none⟩ = some (.int .i64 r2) ∧ x.cell? ⟨R, 3, none⟩ = some (.int .i64 r3)) := hide fun x hx => ⟨hx.lt, by simpa using hx.cell 0, by simpa using hx.cell 1, by simpa using hx.cell 2, by simpa using hx.cell 3⟩
  clear hb k1 hR HX0 blt
  go_region_held3 (fun x => R < x.heap.size ∧ x.cell? ⟨R, 0, none⟩ = some (.int .i64 r0) ∧ x.cell? ⟨R, 1, none⟩ = some (.int .i64 r1) ∧ x.cell? ⟨R, 2, none⟩ = some (.int .i64 r2) ∧ x.cell? ⟨R, 3, none⟩ = some (.int .i64 r3)) ((refine KS.out _ ?_; repeat (first | exact HK.out | refine blk_d ?_ | refine blk_a ?_ _))) ((first | (go_at_call 48; refine (CN2.out _ _ (by repeat (first | exact HX.out | refine bdr ?_ | refine ba2 ?_ _))).mono ?_; rintro e wz ⟨rfl, hz⟩; have HX0 := HX; have HK0 := HK; replace HX := hide (show Below w.heap.size w wz from below_t5 (by repeat (first | exact HX0.out | refine bdr ?_ | refine ba2 ?_ _)) hz); replace HK := hide (show Blk wz R #[.int .i64 r0, .int .i64 r1, .int .i64 r2, .int .i64 r3] 36 from Blk.below (by repeat (first | exact HK0.out | refine blk_d ?_ | refine blk_a ?_ _)) hz); clear HX0 HK0 hz) | (go_at_call 46; refine (CL.out _ (by repeat (first | exact HX.out | refine bdr ?_ | refine ba2 ?_ _))).mono ?_; rintro e wz ⟨rfl, hws, hpk⟩; have HK0 := HK; replace HK := hide (show Blk wz R #[.int .i64 r0, .int .i64 r1, .int .i64 r2, .int .i64 r3] 36 from hpk.blk (by repeat (first | exact HK0.out | refine blk_d ?_ | refine blk_a ?_ _)) (by rw [← HRR.out]; exact HNE.out) tr_ne); have HWS := hide hws; have HPK := hide (show PK B b w wz from PK.trans (PK.of_below (by repeat (first | exact HX.out | refine bdr ?_ | refine ba2 ?_ _)) HBB.out) hpk); clear HK0 hws hpk)))
  all_goals (
    (try go_wp2_with fail)
    go_end0
    exact ⟨rfl, HWS.out, HPK.out⟩)
end Go.Proofs.YthhhepbflggojaaDoor.E15
