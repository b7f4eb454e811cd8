/-
  The glyph's reader in memory; what must, number, pass, width, offset, matrix, flag and instructions answer.
-/
import Derived.Test.YtjacjdglklcijaaDoorM9Sml
import Derived.Test.YtjacjdglklcijaaDoorG10P
import Derived.RegionDies
namespace Go.Proofs.YtjacjdglklcijaaDoor
open Go.RowKit Go.Deep
set_option linter.unusedVariables false

/- every block that stood, but one, is as it was -/
structure But (b : Nat) (w w' : World) : Prop where
  os : w'.os = w.os
  tape : w'.tape = w.tape
  output : w'.output = w.output
  size : w.heap.size ≤ w'.heap.size
  block : ∀ k, k < w.heap.size → k ≠ b → w'.heap[k]? = w.heap[k]?
theorem But.refl (b : Nat) (w : World) : But b w w := ⟨rfl, rfl, rfl, Nat.le_refl _, fun _ _ _ => rfl⟩
theorem But.trans {b : Nat} {u v w : World} (h : But b u v) (k : But b v w) : But b u w :=
  ⟨k.os.trans h.os, k.tape.trans h.tape, k.output.trans h.output, Nat.le_trans h.size k.size, fun i hi hn => by rw [k.block i (Nat.lt_of_lt_of_le hi h.size) hn, h.block i hi hn]⟩
theorem But.of_below {b : Nat} {w w' : World} (h : Below w.heap.size w w') : But b w w' := ⟨h.os, h.tape, h.output, h.size, fun k hk _ => h.block k hk⟩
theorem But.setCell (b : Nat) (w : World) (o : Nat) (v : Value) : But b w (w.setCell ⟨b, o, none⟩ v) :=
  ⟨rfl, rfl, rfl, by simp [World.setCell], fun k _ hn => Below.heap_setCell _ _ _ _ hn⟩
theorem But.below {b : Nat} {w w' W : World} (h : But b w w') (h0 : Below W.heap.size W w) (hb : W.heap.size ≤ b) : Below W.heap.size W w' :=
  h0.trans ⟨h.os, h.tape, h.output, h.size, fun k hk => h.block k (Nat.lt_of_lt_of_le hk h0.size) (by omega)⟩
theorem But.drewL {b : Nat} {w w' : World} {n : Nat} (h : But b (w.drewN n) w') : But b w w' := ⟨h.os, h.tape, h.output, h.size, h.block⟩
theorem But.drewN {b : Nat} {w w' : World} (h : But b w w') (n : Nat) : But b w (w'.drewN n) := h.trans (But.of_below (below_drewN' _ n))
theorem But.drew {b : Nat} {w w' : World} (h : But b w w') : But b w w'.drew := ⟨h.os, h.tape, h.output, h.size, h.block⟩
theorem But.blk {b k : Nat} {w w' : World} {cs : Array Value} {t : TypeId} (h : But b w w') (hk : Blk w k cs t) (hne : k ≠ b) : Blk w' k cs t := by
  have := hk.lt
  unfold Blk at *; rw [h.block k this hne]; exact hk
theorem Blk.drewN {w : World} {b : Nat} {cs : Array Value} {t : TypeId} (h : Blk w b cs t) (n : Nat) : Blk (w.drewN n) b cs t := h
/- the reader in the block b -/
def RA (w : World) (b : Nat) (s : ByteArray) (a : Nat) : Prop := Blk w b #[.string s, .int .i64 (a : Int)] 55
theorem RA.at1 {w : World} {b : Nat} {s : ByteArray} {a : Nat} (h : RA w b s a) (a' : Nat) : RA (w.setCell ⟨b, 1, none⟩ (.int .i64 (a' : Int))) b s a' := Blk.set h 1 (.int .i64 (a' : Int))
theorem RA.two {w : World} {b : Nat} {s : ByteArray} {a : Nat} (h : RA w b s a) : (w.cell? ⟨b, 0, none⟩ = some (.string s) ∧ w.cell? ⟨b, 1, none⟩ = some (.int .i64 (a : Int))) ∧ w.frozen? ⟨b, 0, none⟩ = false ∧ w.frozen? ⟨b, 1, none⟩ = false :=
  ⟨⟨Blk.cell h 0, Blk.cell h 1⟩, Blk.frozen h 0, Blk.frozen h 1⟩
theorem RA.drewN {w : World} {b : Nat} {s : ByteArray} {a : Nat} (h : RA w b s a) (n : Nat) : RA (w.drewN n) b s a := h
theorem RA.below {w w' : World} {b : Nat} {s : ByteArray} {a : Nat} (h : RA w b s a) (hb : Below w.heap.size w w') : RA w' b s a := Blk.below h hb
theorem RA.lt {w : World} {b : Nat} {s : ByteArray} {a : Nat} (h : RA w b s a) : b < w.heap.size := Blk.lt h

abbrev thrown : Ending := .panicked [{ v := .iface 25 (.int .i64 100), recovered := false }]
theorem must_any (t : Bool) (w : World) : Calls Tryd.prog 33 #[.bool t] w fun e w' => (e = if t then .returned (.tuple #[]) else thrown) ∧ w' = w := by
  have hnot : ∀ (x : Bool) (w : World), (Op.unary .not (.bool x)).run Tryd.prog w = .ok (.bool (!x)) w := fun _ _ => rfl
  cases t
  · go_enter Tryd.func33, Tryd.ntmps33
    go_wp2
    exact ⟨rfl, rfl, rfl⟩
  · go_enter Tryd.func33, Tryd.ntmps33
    go_wp2
    go_end0
    exact ⟨rfl, rfl⟩
theorem must_t (w : World) : Calls Tryd.prog 33 #[.bool true] w fun e w' => e = .returned (.tuple #[]) ∧ w' = w := (must_any true w).mono fun _ _ h => ⟨by simpa using h.1, h.2⟩
theorem must_f (w : World) : Calls Tryd.prog 33 #[.bool false] w fun e w' => e = thrown ∧ w' = w := (must_any false w).mono fun _ _ h => ⟨by simpa using h.1, h.2⟩

theorem or_byte (x y : Int) (hx0 : 0 ≤ x) (hx : x ≤ 16777215) (hy0 : 0 ≤ y) (hy : y < 256) : bits .or .i64 (x * 256) y = x * 256 + y :=
  bits_join .i64 62 (by decide) (fun n h0 h1 => by rw [IntKind.wrap_i64]; omega) 8 (x * 256) y (by omega) (by omega) (by omega) hy0 (by omega) (by omega)
theorem and_nat (f m : Nat) (hf : f ≤ 65535) (hm : m ≤ 65535) : bits .and .i64 (f : Int) (m : Int) = ((f &&& m : Nat) : Int) :=
  (bits_nat .i64 62 (by decide) (fun n h0 h1 => by rw [IntKind.wrap_i64]; omega) f m (by omega) (by omega)).1
theorem take_snoc (s : ByteArray) (k : Nat) (h : k < s.size) : s.data.toList.take (k + 1) = s.data.toList.take k ++ [s[k]] := by
  rw [List.take_succ_eq_append_getElem (by simpa using h)]; rfl
theorem num_any (s : ByteArray) (w : World) (h : s.size ≤ 4) : Calls Tryd.prog 20 #[.string s] w fun e w' => e = .returned (.int .i64 ((numV s.data.toList : Nat) : Int)) ∧ w' = w := by
  have h' : (s.size : Int) ≤ 4 := by omega
  go_enter Tryd.func20, Tryd.ntmps20
  go_wp2_with fail
  go_loop [3, 7] (fun x i => ∃ k : Nat, i = .int .i64 k ∧ Hid (k ≤ s.size) ∧ x = .int .i64 ((numV (s.data.toList.take k) : Nat) : Int)) (fun _ i => s.size - (intOf i).toNat)
  case atStart => exact ⟨0, rfl, hide (Nat.zero_le _), rfl⟩
  case round =>
    obtain ⟨k, rfl, HK, rfl⟩ := hrel
    have hk := HK.out
    clear HK
    by_cases hlt : k < s.size
    · have hlt' : (k : Int) < (s.size : Int) := by omega
      have hk0 : (0 : Int) ≤ (k : Int) := by omega
      have hb := numV_lt (s.data.toList.take k)
      have hl : (s.data.toList.take k).length ≤ 3 := by have := List.length_take_le k s.data.toList; omega
      have hp : (256 : Nat) ^ (s.data.toList.take k).length ≤ 256 ^ 3 := Nat.pow_le_pow_right (by omega) hl
      have hB : numV (s.data.toList.take k) ≤ 16777215 := by have h1 := Nat.lt_of_lt_of_le hb hp; have h2 : (256 : Nat) ^ 3 = 16777216 := rfl; omega
      have HS := hide (show numV (s.data.toList.take (k + 1)) = numV (s.data.toList.take k) * 256 + s[k].toNat by rw [take_snoc s k hlt, numV_snoc])
      clear hb hl hp
      have a0 := s[k].toNat_lt
      generalize numV (s.data.toList.take k) = X at HS hB ⊢
      have b1 : (s[k].toNat : Int) ≤ 255 := by omega
      have b2 : (X : Int) ≤ 16777215 := by omega
      have b3 : (0 : Int) ≤ (X : Int) := by omega
      have ho := or_byte (X : Int) (s[k].toNat : Int) b3 b2 (by omega) (by omega)
      clear a0 hB
      go_wp2_with fail
      go_round
      case rel => exact ⟨k + 1, by go_num, hide (by omega), by rw [HS.out]; go_num⟩
      case measure => simp [intOf]; omega
    · have hlt' : ¬ (k : Int) < (s.size : Int) := by omega
      have HE := hide (show s.data.toList.take k = s.data.toList from List.take_of_length_le (by rw [← Lib.size_eq]; omega))
      go_wp2_with fail
      go_ret
      exact ⟨by rw [HE.out]; rfl, rfl⟩
theorem drop_cons (l : List UInt8) (k : Nat) (h : k < l.length) : l.drop k = l.getD k 0 :: l.drop (k + 1) := by
  rw [List.drop_eq_getElem_cons h, List.getD_eq_getElem?_getD, List.getElem?_eq_getElem h]; rfl
theorem ext1 (s : ByteArray) (a : Nat) (h : a + 1 ≤ s.size) : numV (s.extract a (a + 1)).data.toList = bt s.data.toList a := by
  rw [Lib.extract_data, drop_cons _ _ (by rw [← Lib.size_eq]; omega), show a + 1 - a = 1 by omega]
  simp [numV, bt]
theorem ext2 (s : ByteArray) (a : Nat) (h : a + 2 ≤ s.size) : numV (s.extract a (a + 2)).data.toList = n2 s.data.toList a := by
  rw [Lib.extract_data, drop_cons _ _ (by rw [← Lib.size_eq]; omega), drop_cons _ (a + 1) (by rw [← Lib.size_eq]; omega), show a + 2 - a = 2 by omega]
  simp [numV, bt, n2]
theorem ext4 (s : ByteArray) (a : Nat) (h : a + 4 ≤ s.size) : numV (s.extract a (a + 4)).data.toList = n4 s.data.toList a := by
  rw [Lib.extract_data, drop_cons _ _ (by rw [← Lib.size_eq]; omega), drop_cons _ (a + 1) (by rw [← Lib.size_eq]; omega), drop_cons _ (a + 1 + 1) (by rw [← Lib.size_eq]; omega), drop_cons _ (a + 1 + 1 + 1) (by rw [← Lib.size_eq]; omega), show a + 4 - a = 4 by omega]
  simp [numV, bt, n2, n4, Nat.add_assoc]
  omega
theorem ext_size (s : ByteArray) (a c : Nat) (h : a + c ≤ s.size) : (s.extract a (a + c)).size = c := by rw [ByteArray.size_extract]; omega

set_option maxRecDepth 8000 in
set_option maxHeartbeats 1000000 in
theorem pass_ok (b : Nat) (s : ByteArray) (a c : Nat) (w : World) (h : RA w b s a) (hs : s.size ≤ 1000000) (hc : a + c ≤ s.size) :
    Calls Tryd.prog 31 #[.pointer (some ⟨b, 0, none⟩), .int .i64 (c : Int)] w fun e w' => e = .returned (.string (s.extract a (a + c))) ∧ But b w w' ∧ RA w' b s (a + c) := by
  obtain ⟨⟨c0, c1⟩, z0, z1⟩ := h.two
  have HR := hide h
  have CM := hide must_t
  have g1 : (a : Int) + (c : Int) ≤ (s.size : Int) := by omega
  have g0 : (0 : Int) ≤ (a : Int) := by omega
  have g5 : (0 : Int) ≤ (c : Int) := by omega
  have g2 : (s.size : Int) ≤ 1000000 := by omega
  have g3 : decide ((c : Int) ≤ (s.size : Int) - (a : Int)) = true := by simp; omega
  have g4 : IntKind.i64.wrap ((s.size : Int) - (a : Int)) = (s.size : Int) - (a : Int) := by rw [IntKind.wrap_i64]; omega
  have g6 : (c : Int) ≤ (s.size : Int) - (a : Int) := by omega
  clear h hs
  go_enter Tryd.func31, Tryd.ntmps31
  go_wp2_with fail
  go_region_held3 (fun x => x.cell? ⟨b, 0, none⟩ = some (.string s) ∧ x.cell? ⟨b, 1, none⟩ = some (.int .i64 (a : Int))) (go_keep) ((first | (go_at_call 33; refine (CM.out _).mono ?_; rintro e wy ⟨rfl, hy⟩; subst wy)))
  go_wp2_with fail
  have q := Blk.set HR.out 1 (.int .i64 ((a : Int) + (c : Int)))
  have k1 : (a : Int) ≤ (a : Int) + (c : Int) := by omega
  have k2 : ((a : Int) + (c : Int)).toNat = a + c := by omega
  have k3 : (0 : Int) ≤ (a : Int) + (c : Int) := by omega
  have q0 : (w.setCell ⟨b, 1, none⟩ (.int .i64 ((a : Int) + (c : Int)))).cell? ⟨b, 0, none⟩ = some (.string s) := q.cell 0
  have q1 : (w.setCell ⟨b, 1, none⟩ (.int .i64 ((a : Int) + (c : Int)))).cell? ⟨b, 1, none⟩ = some (.int .i64 ((a : Int) + (c : Int))) := q.cell 1
  clear q
  go_region_held3 (fun x => x.cell? ⟨b, 0, none⟩ = some (.string s) ∧ x.cell? ⟨b, 1, none⟩ = some (.int .i64 ((a : Int) + (c : Int)))) (go_keep) ((fail))
  go_wp2_with fail
  go_ret
  exact ⟨rfl, (But.setCell b _ 1 _).drew.drew, RA.at1 HR.out (a + c)⟩
set_option maxRecDepth 8000 in
set_option maxHeartbeats 1000000 in
theorem pass_bad (b : Nat) (s : ByteArray) (a c : Nat) (w : World) (h : RA w b s a) (hs : s.size ≤ 1000000) (ha : a ≤ s.size) (hc : ¬ a + c ≤ s.size) :
    Calls Tryd.prog 31 #[.pointer (some ⟨b, 0, none⟩), .int .i64 (c : Int)] w fun e w' => e = thrown ∧ But b w w' := by
  obtain ⟨⟨c0, c1⟩, z0, z1⟩ := h.two
  have CM := hide must_f
  have g2 : (s.size : Int) ≤ 1000000 := by omega
  have g0 : (0 : Int) ≤ (a : Int) := by omega
  have g1 : (a : Int) ≤ (s.size : Int) := by omega
  have g3 : decide ((c : Int) ≤ (s.size : Int) - (a : Int)) = false := by simp; omega
  have g4 : IntKind.i64.wrap ((s.size : Int) - (a : Int)) = (s.size : Int) - (a : Int) := by rw [IntKind.wrap_i64]; omega
  clear h hs
  go_enter Tryd.func31, Tryd.ntmps31
  go_wp2_with fail
  go_region_dies
  all_goals
    go_at_call 33
    refine (CM.out _).mono ?_
    rintro e wy ⟨rfl, hy⟩
    subst wy
    exact ⟨rfl, rfl, (But.refl _ _).drew⟩
end Go.Proofs.YtjacjdglklcijaaDoor
