/-
  Joined: G10Rd, G10Re.
-/
import Derived.RegionDies
import Derived.Test.YthnpnkiomknkeaaDoorC02
import Derived.Test.YthnpnkiomknkeaaDoorC05
import Derived.Test.YthnpnkiomknkeaaDoorC06
namespace Go.Proofs.YthnpnkiomknkeaaDoor.G10
open Go.RowKit Go.Deep
set_option linter.unusedVariables false
structure But (b : Nat) (w w' : World) : Prop where
  os : w'.os = w.os
  tape : w'.tape = w.tape
  output : w'.output = w.output
  size : w.heap.size ≤ w'.heap.size
  block : ∀ k, k < w.heap.size → k ≠ b → w'.heap[k]? = w.heap[k]?
theorem But.refl (b : Nat) (w : World) : But b w w := ⟨rfl, rfl, rfl, Nat.le_refl _, fun _ _ _ => rfl⟩
theorem But.trans {b : Nat} {u v w : World} (h : But b u v) (k : But b v w) : But b u w :=
  ⟨k.os.trans h.os, k.tape.trans h.tape, k.output.trans h.output, Nat.le_trans h.size k.size, fun i hi hn => by rw [k.block i (Nat.lt_of_lt_of_le hi h.size) hn, h.block i hi hn]⟩
theorem But.of_below {b : Nat} {w w' : World} (h : Below w.heap.size w w') : But b w w' := ⟨h.os, h.tape, h.output, h.size, fun k hk _ => h.block k hk⟩
theorem But.setCell (b : Nat) (w : World) (o : Nat) (v : Value) : But b w (w.setCell ⟨b, o, none⟩ v) :=
  ⟨rfl, rfl, rfl, by simp [World.setCell], fun k _ hn => Below.heap_setCell _ _ _ _ hn⟩
theorem But.below {b : Nat} {w w' W : World} (h : But b w w') (h0 : Below W.heap.size W w) (hb : W.heap.size ≤ b) : Below W.heap.size W w' :=
  h0.trans ⟨h.os, h.tape, h.output, h.size, fun k hk => h.block k (Nat.lt_of_lt_of_le hk h0.size) (by omega)⟩
theorem But.drew {b : Nat} {w w' : World} (h : But b w w') : But b w w'.drew := ⟨h.os, h.tape, h.output, h.size, h.block⟩
theorem But.blk {b k : Nat} {w w' : World} {cs : Array Value} {t : TypeId} (h : But b w w') (hk : Blk w k cs t) (hne : k ≠ b) : Blk w' k cs t := by
  have := hk.lt
  unfold Blk at *; rw [h.block k this hne]; exact hk
def RA (w : World) (b : Nat) (s : ByteArray) (a : Nat) : Prop := Blk w b #[.string s, .int .i64 (a : Int)] 101
theorem RA.at1 {w : World} {b : Nat} {s : ByteArray} {a : Nat} (h : RA w b s a) (a' : Nat) : RA (w.setCell ⟨b, 1, none⟩ (.int .i64 (a' : Int))) b s a' := Blk.set h 1 (.int .i64 (a' : Int))
theorem RA.two {w : World} {b : Nat} {s : ByteArray} {a : Nat} (h : RA w b s a) : (w.cell? ⟨b, 0, none⟩ = some (.string s) ∧ w.cell? ⟨b, 1, none⟩ = some (.int .i64 (a : Int))) ∧ w.frozen? ⟨b, 0, none⟩ = false ∧ w.frozen? ⟨b, 1, none⟩ = false :=
  ⟨⟨Blk.cell h 0, Blk.cell h 1⟩, Blk.frozen h 0, Blk.frozen h 1⟩
theorem RA.below {w w' : World} {b : Nat} {s : ByteArray} {a : Nat} (h : RA w b s a) (hb : Below w.heap.size w w') : RA w' b s a := Blk.below h hb
theorem RA.lt {w : World} {b : Nat} {s : ByteArray} {a : Nat} (h : RA w b s a) : b < w.heap.size := Blk.lt h
abbrev thrown : Ending := .panicked [{ v := .iface 33 (.int .i64 100), recovered := false }]
theorem must_any (t : Bool) (w : World) : Calls Tryd.prog 67 #[.bool t] w fun e w' => (e = if t then .returned (.tuple #[]) else thrown) ∧ w' = w := by
  have hnot : ∀ (x : Bool) (w : World), (Op.unary .not (.bool x)).run Tryd.prog w = .ok (.bool (!x)) w := fun _ _ => rfl
  cases t
  · go_enter Tryd.func67, Tryd.ntmps67
    go_wp2
    exact ⟨rfl, rfl, rfl⟩
  · go_enter Tryd.func67, Tryd.ntmps67
    go_wp2
    go_end0
    exact ⟨rfl, rfl⟩
theorem must_t (w : World) : Calls Tryd.prog 67 #[.bool true] w fun e w' => e = .returned (.tuple #[]) ∧ w' = w := (must_any true w).mono fun _ _ h => ⟨by simpa using h.1, h.2⟩
theorem must_f (w : World) : Calls Tryd.prog 67 #[.bool false] w fun e w' => e = thrown ∧ w' = w := (must_any false w).mono fun _ _ h => ⟨by simpa using h.1, h.2⟩
theorem or_byte (x y : Int) (hx0 : 0 ≤ x) (hx : x ≤ 16777215) (hy0 : 0 ≤ y) (hy : y < 256) : bits .or .i64 (x * 256) y = x * 256 + y :=
  bits_join .i64 62 (by decide) (fun n h0 h1 => by rw [IntKind.wrap_i64]; omega) 8 (x * 256) y (by omega) (by omega) (by omega) hy0 (by omega) (by omega)
theorem and_nat (f m : Nat) (hf : f ≤ 65535) (hm : m ≤ 65535) : bits .and .i64 (f : Int) (m : Int) = ((f &&& m : Nat) : Int) :=
  (bits_nat .i64 62 (by decide) (fun n h0 h1 => by rw [IntKind.wrap_i64]; omega) f m (by omega) (by omega)).1
theorem take_snoc (s : ByteArray) (k : Nat) (h : k < s.size) : s.data.toList.take (k + 1) = s.data.toList.take k ++ [s[k]] := by
  rw [List.take_succ_eq_append_getElem (by simpa using h)]; rfl
theorem num_any (s : ByteArray) (w : World) (h : s.size ≤ 4) : Calls Tryd.prog 38 #[.string s] w fun e w' => e = .returned (.int .i64 ((numV s.data.toList : Nat) : Int)) ∧ w' = w := by
  have h' : (s.size : Int) ≤ 4 := by omega
  go_enter Tryd.func38, Tryd.ntmps38
  go_wp2_with fail
  go_loop [3, 7] (fun x i => ∃ k : Nat, i = .int .i64 k ∧ Hid (k ≤ s.size) ∧ x = .int .i64 ((numV (s.data.toList.take k) : Nat) : Int)) (fun _ i => s.size - (intOf i).toNat)
  case atStart => exact ⟨0, rfl, hide (Nat.zero_le _), rfl⟩
  case round =>
    obtain ⟨k, rfl, HK, rfl⟩ := hrel
    have hk := HK.out
    clear HK
    by_cases hlt : k < s.size
    · have hlt' : (k : Int) < (s.size : Int) := by omega
      have hk0 : (0 : Int) ≤ (k : Int) := by omega
      have hb := numV_lt (s.data.toList.take k)
      have hl : (s.data.toList.take k).length ≤ 3 := by have := List.length_take_le k s.data.toList; omega
      have hp : (256 : Nat) ^ (s.data.toList.take k).length ≤ 256 ^ 3 := Nat.pow_le_pow_right (by omega) hl
      have hB : numV (s.data.toList.take k) ≤ 16777215 := by have h1 := Nat.lt_of_lt_of_le hb hp; have h2 : (256 : Nat) ^ 3 = 16777216 := rfl; omega
      have HS := hide (show numV (s.data.toList.take (k + 1)) = numV (s.data.toList.take k) * 256 + s[k].toNat by rw [take_snoc s k hlt, numV_snoc])
      clear hb hl hp
      have a0 := s[k].toNat_lt
      generalize numV (s.data.toList.take k) = X at HS hB ⊢
      have b1 : (s[k].toNat : Int) ≤ 255 := by omega
      have b2 : (X : Int) ≤ 16777215 := by omega
      have b3 : (0 : Int) ≤ (X : Int) := by omega
      have ho := or_byte (X : Int) (s[k].toNat : Int) b3 b2 (by omega) (by omega)
      clear a0 hB
      go_wp2_with fail
      go_round
      case rel => exact ⟨k + 1, by go_num, hide (by omega), by rw [HS.out]; go_num⟩
      case measure => simp [intOf]; omega
    · have hlt' : ¬ (k : Int) < (s.size : Int) := by omega
      have HE := hide (show s.data.toList.take k = s.data.toList from List.take_of_length_le (by rw [← Lib.size_eq]; omega))
      go_wp2_with fail
      go_ret
      exact ⟨by rw [HE.out]; rfl, rfl⟩
theorem drop_cons (l : List UInt8) (k : Nat) (h : k < l.length) : l.drop k = l.getD k 0 :: l.drop (k + 1) := by
  rw [List.drop_eq_getElem_cons h, List.getD_eq_getElem?_getD, List.getElem?_eq_getElem h]; rfl
theorem ext1 (s : ByteArray) (a : Nat) (h : a + 1 ≤ s.size) : numV (s.extract a (a + 1)).data.toList = bt s.data.toList a := by
  rw [Lib.extract_data, drop_cons _ _ (by rw [← Lib.size_eq]; omega), show a + 1 - a = 1 by omega]
  simp [numV, bt]
theorem ext2 (s : ByteArray) (a : Nat) (h : a + 2 ≤ s.size) : numV (s.extract a (a + 2)).data.toList = n2 s.data.toList a := by
  rw [Lib.extract_data, drop_cons _ _ (by rw [← Lib.size_eq]; omega), drop_cons _ (a + 1) (by rw [← Lib.size_eq]; omega), show a + 2 - a = 2 by omega]
  simp [numV, bt, n2]
theorem ext_size (s : ByteArray) (a c : Nat) (h : a + c ≤ s.size) : (s.extract a (a + c)).size = c := by rw [ByteArray.size_extract]; omega
set_option maxRecDepth 8000 in
set_option maxHeartbeats 1000000 in
theorem pass_ok (b : Nat) (s : ByteArray) (a c : Nat) (w : World) (h : RA w b s a) (hs : s.size ≤ 1000000) (hc : a + c ≤ s.size) :
    Calls Tryd.prog 65 #[.pointer (some ⟨b, 0, none⟩), .int .i64 (c : Int)] w fun e w' => e = .returned (.string (s.extract a (a + c))) ∧ But b w w' ∧ RA w' b s (a + c) := by
  obtain ⟨⟨c0, c1⟩, z0, z1⟩ := h.two
  have HR := hide h
  have CM := hide must_t
  have g1 : (a : Int) + (c : Int) ≤ (s.size : Int) := by omega
  have g0 : (0 : Int) ≤ (a : Int) := by omega
  have g5 : (0 : Int) ≤ (c : Int) := by omega
  have g2 : (s.size : Int) ≤ 1000000 := by omega
  have g3 : decide ((c : Int) ≤ (s.size : Int) - (a : Int)) = true := by simp; omega
  have g4 : IntKind.i64.wrap ((s.size : Int) - (a : Int)) = (s.size : Int) - (a : Int) := by rw [IntKind.wrap_i64]; omega
  have g6 : (c : Int) ≤ (s.size : Int) - (a : Int) := by omega
  clear h hs
  go_enter Tryd.func65, Tryd.ntmps65
  go_wp2_with fail
  go_region_held3 (fun x => x.cell? ⟨b, 0, none⟩ = some (.string s) ∧ x.cell? ⟨b, 1, none⟩ = some (.int .i64 (a : Int))) (go_keep) ((first | (go_at_call 67; refine (CM.out _).mono ?_; rintro e wy ⟨rfl, hy⟩; subst wy)))
  go_wp2_with fail
  have q := Blk.set HR.out 1 (.int .i64 ((a : Int) + (c : Int)))
  have k1 : (a : Int) ≤ (a : Int) + (c : Int) := by omega
  have k2 : ((a : Int) + (c : Int)).toNat = a + c := by omega
  have k3 : (0 : Int) ≤ (a : Int) + (c : Int) := by omega
  have q0 : (w.setCell ⟨b, 1, none⟩ (.int .i64 ((a : Int) + (c : Int)))).cell? ⟨b, 0, none⟩ = some (.string s) := q.cell 0
  have q1 : (w.setCell ⟨b, 1, none⟩ (.int .i64 ((a : Int) + (c : Int)))).cell? ⟨b, 1, none⟩ = some (.int .i64 ((a : Int) + (c : Int))) := q.cell 1
  clear q
  go_region_held3 (fun x => x.cell? ⟨b, 0, none⟩ = some (.string s) ∧ x.cell? ⟨b, 1, none⟩ = some (.int .i64 ((a : Int) + (c : Int)))) (go_keep) ((fail))
  go_wp2_with fail
  go_ret
  exact ⟨rfl, (But.setCell b _ 1 _).drew.drew, RA.at1 HR.out (a + c)⟩
set_option maxRecDepth 8000 in
set_option maxHeartbeats 1000000 in
theorem pass_bad (b : Nat) (s : ByteArray) (a c : Nat) (w : World) (h : RA w b s a) (hs : s.size ≤ 1000000) (ha : a ≤ s.size) (hc : ¬ a + c ≤ s.size) :
    Calls Tryd.prog 65 #[.pointer (some ⟨b, 0, none⟩), .int .i64 (c : Int)] w fun e w' => e = thrown ∧ But b w w' := by
  obtain ⟨⟨c0, c1⟩, z0, z1⟩ := h.two
  have CM := hide must_f
  have g2 : (s.size : Int) ≤ 1000000 := by omega
  have g0 : (0 : Int) ≤ (a : Int) := by omega
  have g1 : (a : Int) ≤ (s.size : Int) := by omega
  have g3 : decide ((c : Int) ≤ (s.size : Int) - (a : Int)) = false := by simp; omega
  have g4 : IntKind.i64.wrap ((s.size : Int) - (a : Int)) = (s.size : Int) - (a : Int) := by rw [IntKind.wrap_i64]; omega
  clear h hs
  go_enter Tryd.func65, Tryd.ntmps65
  go_wp2_with fail
  go_region_dies
  all_goals
    go_at_call 67
    refine (CM.out _).mono ?_
    rintro e wy ⟨rfl, hy⟩
    subst wy
    exact ⟨rfl, rfl, (But.refl _ _).drew⟩
theorem rnum_ok (b : Nat) (s : ByteArray) (a : Nat) (w : World) (h : RA w b s a) (hs : s.size ≤ 1000000) (hc : a + 2 ≤ s.size) :
    Calls Tryd.prog 64 #[.pointer (some ⟨b, 0, none⟩)] w fun e w' => e = .returned (.int .i64 ((n2 s.data.toList a : Nat) : Int)) ∧ But b w w' ∧ RA w' b s (a + 2) := by
  have C := hide (pass_ok b s a 2 w h hs hc)
  have CN := hide (fun w => num_any (s.extract a (a + 2)) w (by rw [ext_size s a 2 hc]; omega))
  rw [ext2 s a hc] at CN
  clear h hs hc
  go_enter Tryd.func64, Tryd.ntmps64
  go_wp2_with fail
  refine C.out.mono ?_
  rintro e w1 ⟨rfl, h1, h2⟩
  have H1 := hide h1
  have H2 := hide h2
  clear h1 h2
  go_wp2_with fail
  refine (CN.out _).mono ?_
  rintro e w2 ⟨rfl, hw⟩
  subst hw
  go_wp2_with fail
  go_ret
  exact ⟨rfl, H1.out, H2.out⟩
theorem rnum_bad (b : Nat) (s : ByteArray) (a : Nat) (w : World) (h : RA w b s a) (hs : s.size ≤ 1000000) (ha : a ≤ s.size) (hc : ¬ a + 2 ≤ s.size) :
    Calls Tryd.prog 64 #[.pointer (some ⟨b, 0, none⟩)] w fun e w' => e = thrown ∧ But b w w' := by
  have C := hide (pass_bad b s a 2 w h hs ha hc)
  clear h hs hc
  go_enter Tryd.func64, Tryd.ntmps64
  go_wp2_with fail
  refine C.out.mono ?_
  rintro e w1 ⟨rfl, h1⟩
  exact ⟨rfl, rfl, h1⟩
def insV (l : List UInt8) (N a : Nat) : Option Nat := if a + 2 ≤ N ∧ a + 2 + n2 l a ≤ N then some (a + 2 + n2 l a) else none
def InR (b : Nat) (w : World) (s : ByteArray) (R : Option Nat) (e : Ending) (w' : World) : Prop := match R with
  | some q => e = .returned (.tuple #[]) ∧ But b w w' ∧ RA w' b s q
  | none => e = thrown ∧ But b w w'
theorem ins_any (b : Nat) (s : ByteArray) (a : Nat) (w : World) (h : RA w b s a) (hs : s.size ≤ 1000000) (ha : a ≤ s.size) :
    Calls Tryd.prog 69 #[.pointer (some ⟨b, 0, none⟩)] w (InR b w s (insV s.data.toList s.size a)) := by
  by_cases h2 : a + 2 ≤ s.size
  · have C := hide (rnum_ok b s a w h hs h2)
    by_cases h3 : a + 2 + n2 s.data.toList a ≤ s.size
    · have hv : insV s.data.toList s.size a = some (a + 2 + n2 s.data.toList a) := by unfold insV; rw [if_pos ⟨h2, h3⟩]
      rw [hv]
      have CP := hide (fun w' (h' : RA w' b s (a + 2)) => pass_ok b s (a + 2) (n2 s.data.toList a) w' h' hs h3)
      generalize n2 s.data.toList a = X at C CP ⊢
      clear hv h h3
      go_enter Tryd.func69, Tryd.ntmps69
      go_wp2_with fail
      refine C.out.mono ?_
      rintro e w1 ⟨rfl, h1, h2⟩
      have H1 := hide h1
      have H2 := hide h2
      clear h1 h2
      go_wp2_with fail
      refine (CP.out _ H2.out).mono ?_
      rintro e w2 ⟨rfl, h3, h4⟩
      have H3 := hide (H1.out.trans h3)
      have H4 := hide h4
      clear h3 h4 H1 H2
      go_wp2_with fail
      go_end0
      exact ⟨rfl, H3.out, H4.out⟩
    · have hv : insV s.data.toList s.size a = none := by unfold insV; rw [if_neg (fun hh => h3 hh.2)]
      rw [hv]
      have CP := hide (fun w' (h' : RA w' b s (a + 2)) => pass_bad b s (a + 2) (n2 s.data.toList a) w' h' hs h2 h3)
      generalize n2 s.data.toList a = X at C CP ⊢
      clear hv h h3
      go_enter Tryd.func69, Tryd.ntmps69
      go_wp2_with fail
      refine C.out.mono ?_
      rintro e w1 ⟨rfl, h1, h2⟩
      have H1 := hide h1
      have H2 := hide h2
      clear h1 h2
      go_wp2_with fail
      refine (CP.out _ H2.out).mono ?_
      rintro e w2 ⟨rfl, h3⟩
      exact ⟨rfl, rfl, H1.out.trans h3⟩
  · have C := hide (rnum_bad b s a w h hs ha h2)
    have hv : insV s.data.toList s.size a = none := by unfold insV; rw [if_neg (fun hh => h2 hh.1)]
    rw [hv]
    clear h hv
    go_enter Tryd.func69, Tryd.ntmps69
    go_wp2_with fail
    refine C.out.mono ?_
    rintro e w1 ⟨rfl, h1⟩
    exact ⟨rfl, rfl, h1⟩
theorem hb_t {f m : Nat} (h : hb f m = true) : f &&& m ≠ 0 := by simpa [hb] using h
theorem hb_f {f m : Nat} (h : hb f m = false) : f &&& m = 0 := by simpa [hb] using h
theorem bit_t {f m : Nat} (hf : f ≤ 65535) (hm : m ≤ 65535) (h : hb f m = true) : ∃ x : Int, bits .and .i64 (f : Int) (m : Int) = x ∧ (x == 0) = false ∧ ¬ x = 0 := by
  have h1 := hb_t h
  refine ⟨_, and_nat f m hf hm, ?_, ?_⟩
  · rw [beq_eq_false_iff_ne]; omega
  · omega
theorem bit_f {f m : Nat} (hf : f ≤ 65535) (hm : m ≤ 65535) (h : hb f m = false) : bits .and .i64 (f : Int) (m : Int) = 0 := by
  rw [and_nat f m hf hm, hb_f h]; rfl
theorem width_any (f o n : Nat) (w : World) (hf : f ≤ 65535) (ho : o ≤ 65535) (hn : n ≤ 65535) :
    Calls Tryd.prog 81 #[.int .i64 (f : Int), .int .i64 (o : Int), .int .i64 (n : Int)] w fun e w' => e = .returned (.int .i64 ((wid f o n : Nat) : Int)) ∧ w' = w := by
  cases h1 : hb f o
  · cases h2 : hb f n
    · have hv : wid f o n = 2 := by unfold wid; simp [h1, h2]
      rw [hv]
      have e1 := bit_f hf ho h1
      have e2 := bit_f hf hn h2
      clear hv h1 h2 hf ho hn
      go_enter Tryd.func81, Tryd.ntmps81
      go_wp2_with fail
      go_ret
      exact ⟨rfl, rfl⟩
    · have hv : wid f o n = 0 := by unfold wid; simp [h1, h2]
      rw [hv]
      have e1 := bit_f hf ho h1
      obtain ⟨x, e2, e3, e4⟩ := bit_t hf hn h2
      clear hv h1 h2 hf ho hn
      go_enter Tryd.func81, Tryd.ntmps81
      go_wp2_with fail
      go_ret
      exact ⟨rfl, rfl⟩
  · have hv : wid f o n = 1 := by unfold wid; simp [h1]
    rw [hv]
    obtain ⟨x, e2, e3, e4⟩ := bit_t hf ho h1
    clear hv h1 hf ho hn
    go_enter Tryd.func81, Tryd.ntmps81
    go_wp2_with fail
    go_ret
    exact ⟨rfl, rfl⟩
theorem offset_any (f : Nat) (w : World) (hf : f ≤ 65535) : Calls Tryd.prog 78 #[.int .i64 (f : Int)] w fun e w' => e = .returned (.int .i64 ((offs f : Nat) : Int)) ∧ w' = w := by
  cases h1 : hb f 1
  · have hv : offs f = 2 := by unfold offs; simp [h1]
    rw [hv]
    have e1 : bits .and .i64 (f : Int) 1 = 0 := bit_f (m := 1) hf (by omega) h1
    clear hv h1 hf
    go_enter Tryd.func78, Tryd.ntmps78
    go_wp2_with fail
    go_ret
    exact ⟨rfl, rfl⟩
  · have hv : offs f = 4 := by unfold offs; simp [h1]
    rw [hv]
    obtain ⟨x, e2, e3, e4⟩ := bit_t hf (m := 1) (by omega) h1
    have e2 : bits .and .i64 (f : Int) 1 = x := e2
    clear hv h1 hf
    go_enter Tryd.func78, Tryd.ntmps78
    go_wp2_with fail
    go_ret
    exact ⟨rfl, rfl⟩
def MtR (w : World) (R : Option Nat) (e : Ending) (w' : World) : Prop := match R with
  | some k => e = .returned (.int .i64 (k : Int)) ∧ w' = w
  | none => e = thrown ∧ w' = w
theorem matrix_any (f : Nat) (w : World) (hf : f ≤ 65535) : Calls Tryd.prog 79 #[.int .i64 (f : Int)] w (MtR w (mtx f)) := by
  have ha : bits .and .i64 (f : Int) 200 = ((f &&& 200 : Nat) : Int) := and_nat f 200 hf (by omega)
  have CT := hide must_t
  have CF := hide must_f
  unfold mtx
  generalize f &&& 200 = x at ha ⊢
  by_cases h1 : x = 8
  · subst h1
    simp only [if_true]
    go_enter Tryd.func79, Tryd.ntmps79
    go_wp2_with fail
    go_ret
    exact ⟨rfl, rfl⟩
  by_cases h2 : x = 64
  · subst h2
    simp only [if_true, if_neg h1]
    go_enter Tryd.func79, Tryd.ntmps79
    go_wp2_with fail
    go_ret
    exact ⟨rfl, rfl⟩
  by_cases h3 : x = 128
  · subst h3
    simp only [if_true, if_neg h1, if_neg h2]
    go_enter Tryd.func79, Tryd.ntmps79
    go_wp2_with fail
    go_ret
    exact ⟨rfl, rfl⟩
  by_cases h4 : x = 0
  · subst h4
    simp only [if_true, if_neg h1, if_neg h2, if_neg h3]
    go_enter Tryd.func79, Tryd.ntmps79
    go_wp2_with (go_at_call 67; refine (CT.out _).mono ?_; rintro e wy ⟨rfl, hy⟩; subst wy)
    go_ret
    exact ⟨rfl, rfl⟩
  · simp only [if_neg h1, if_neg h2, if_neg h3, if_neg h4]
    have q1 : ((x : Int) == 8) = false := by rw [beq_eq_false_iff_ne]; omega
    have q2 : ((x : Int) == 64) = false := by rw [beq_eq_false_iff_ne]; omega
    have q3 : ((x : Int) == 128) = false := by rw [beq_eq_false_iff_ne]; omega
    have q4 : ((x : Int) == 0) = false := by rw [beq_eq_false_iff_ne]; omega
    clear h1 h2 h3 h4
    go_enter Tryd.func79, Tryd.ntmps79
    go_wp2_with (go_at_call 67; refine (CF.out _).mono ?_; rintro e wy ⟨rfl, hy⟩; subst wy)
    exact ⟨rfl, rfl, rfl⟩
def flaV (l : List UInt8) (N a : Nat) : Option (Nat × Nat × Nat) := if a < N then (if hb (bt l a) 8 then (if a + 1 < N then some (bt l a, bt l (a + 1), a + 2) else none) else some (bt l a, 0, a + 1)) else none
def FlR (b : Nat) (w : World) (s : ByteArray) (R : Option (Nat × Nat × Nat)) (e : Ending) (w' : World) : Prop := match R with
  | some (f, m, q) => e = .returned (.tuple #[.int .i64 (f : Int), .int .i64 (m : Int)]) ∧ But b w w' ∧ RA w' b s q
  | none => e = thrown ∧ But b w w'
theorem flag_any (b : Nat) (s : ByteArray) (a : Nat) (w : World) (h : RA w b s a) (hs : s.size ≤ 1000000) (ha : a ≤ s.size) :
    Calls Tryd.prog 80 #[.pointer (some ⟨b, 0, none⟩)] w (FlR b w s (flaV s.data.toList s.size a)) := by
  by_cases h1 : a < s.size
  · have C := hide (pass_ok b s a 1 w h hs h1)
    have CN := hide (fun w => num_any (s.extract a (a + 1)) w (by rw [ext_size s a 1 h1]; omega))
    rw [ext1 s a h1] at CN
    have hf := bt_lt s.data.toList a
    cases h8 : hb (bt s.data.toList a) 8
    · have hv : flaV s.data.toList s.size a = some (bt s.data.toList a, 0, a + 1) := by unfold flaV; simp [h1, h8]
      rw [hv]
      have e1 : bits .and .i64 ((bt s.data.toList a : Nat) : Int) 8 = 0 := bit_f (m := 8) (by omega) (by omega) h8
      generalize bt s.data.toList a = F at CN e1 ⊢
      clear h hv h8 hf
      go_enter Tryd.func80, Tryd.ntmps80
      go_wp2_with fail
      refine C.out.mono ?_
      rintro e w1 ⟨rfl, h1, h2⟩
      have H1 := hide h1
      have H2 := hide h2
      clear h1 h2
      go_wp2_with fail
      refine (CN.out _).mono ?_
      rintro e w2 ⟨rfl, hw⟩
      subst hw
      go_wp2_with fail
      go_ret2
      exact ⟨rfl, H1.out, H2.out⟩
    · obtain ⟨x, e1, e2, e3⟩ := bit_t (f := bt s.data.toList a) (m := 8) (by omega) (by omega) h8
      have e1 : bits .and .i64 ((bt s.data.toList a : Nat) : Int) 8 = x := e1
      by_cases h2 : a + 1 < s.size
      · have hv : flaV s.data.toList s.size a = some (bt s.data.toList a, bt s.data.toList (a + 1), a + 2) := by unfold flaV; simp [h1, h2, h8]
        rw [hv]
        have C2 := hide (fun w' (h' : RA w' b s (a + 1)) => pass_ok b s (a + 1) 1 w' h' hs h2)
        have CM := hide (fun w => num_any (s.extract (a + 1) (a + 1 + 1)) w (by rw [ext_size s (a + 1) 1 h2]; omega))
        rw [ext1 s (a + 1) h2] at CM
        generalize bt s.data.toList a = F at CN e1 ⊢
        generalize bt s.data.toList (a + 1) = G at CM ⊢
        clear h hv h8 hf h1 h2
        go_enter Tryd.func80, Tryd.ntmps80
        go_wp2_with fail
        refine C.out.mono ?_
        rintro e w1 ⟨rfl, h1, h2⟩
        have H1 := hide h1
        have H2 := hide h2
        clear h1 h2
        go_wp2_with fail
        refine (CN.out _).mono ?_
        rintro e w2 ⟨rfl, hw⟩
        subst hw
        go_wp2_with fail
        refine (C2.out _ H2.out).mono ?_
        rintro e w3 ⟨rfl, h1, h2⟩
        have H3 := hide (H1.out.trans h1)
        have H4 := hide h2
        clear h1 h2
        go_wp2_with fail
        refine (CM.out _).mono ?_
        rintro e w4 ⟨rfl, hw⟩
        subst hw
        go_wp2_with fail
        go_ret2
        exact ⟨rfl, H3.out, H4.out⟩
      · have hv : flaV s.data.toList s.size a = none := by unfold flaV; simp [h2, h8]
        rw [hv]
        have C2 := hide (fun w' (h' : RA w' b s (a + 1)) => pass_bad b s (a + 1) 1 w' h' hs h1 (by omega))
        generalize bt s.data.toList a = F at CN e1 ⊢
        clear h hv h8 hf h1 h2
        go_enter Tryd.func80, Tryd.ntmps80
        go_wp2_with fail
        refine C.out.mono ?_
        rintro e w1 ⟨rfl, h1, h2⟩
        have H1 := hide h1
        have H2 := hide h2
        clear h1 h2
        go_wp2_with fail
        refine (CN.out _).mono ?_
        rintro e w2 ⟨rfl, hw⟩
        subst hw
        go_wp2_with fail
        refine (C2.out _ H2.out).mono ?_
        rintro e w3 ⟨rfl, h1⟩
        exact ⟨rfl, rfl, H1.out.trans h1⟩
  · have C := hide (pass_bad b s a 1 w h hs ha (by omega))
    have hv : flaV s.data.toList s.size a = none := by unfold flaV; simp [h1]
    rw [hv]
    clear h hv
    go_enter Tryd.func80, Tryd.ntmps80
    go_wp2_with fail
    refine C.out.mono ?_
    rintro e w1 ⟨rfl, h1⟩
    exact ⟨rfl, rfl, h1⟩
end Go.Proofs.YthnpnkiomknkeaaDoor.G10
