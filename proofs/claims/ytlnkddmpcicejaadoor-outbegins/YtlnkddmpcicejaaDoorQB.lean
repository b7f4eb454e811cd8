/-
  Joined: P6Pt, P6Pe, P6Ps, P6Tb, P6Tr, P6Li.
-/
import Derived.Test.YtlnkddmpcicejaaDoorQA
import Derived.Test.YtlnkddmpcicejaaDoorBH
import Derived.Test.YtlnkddmpcicejaaDoorBF
import Derived.Test.YtlnkddmpcicejaaDoorQG
import Derived.Shelf.Strconv.Itoa3
import Derived.Lib.ItoaLen
/-
  What the writer's put answers: it counts, and keeps what is not too long.
-/
namespace Go.Proofs.YtlnkddmpcicejaaDoor
open Go.RowKit Go.Deep
set_option linter.unusedVariables false

abbrev wbx (v : Value) (n : Int) : Array Value := #[v, .int .i64 n]
structure WSt (w : World) (B b : Nat) (F : List UInt8) : Prop where
  at_ : ∃ v ys, Blk w b (wbx v F.length) 54 ∧ BRow w B v ys ∧ (F.length ≤ 16777216 → ys = F) ∧ ys.length ≤ 16777216
  hb : B ≤ b
  hB : B ≤ w.heap.size
/- what put leaves alone: all but the writer's own block and rows of bytes -/
structure PK (B b : Nat) (w w' : World) : Prop where
  below : Below B w w'
  block : ∀ k, k < w.heap.size → k ≠ b → (∀ c f, w.heap[k]? ≠ some (.cells c 5 f)) → w'.heap[k]? = w.heap[k]?
theorem PK.refl (B b : Nat) (w : World) : PK B b w w := ⟨Below.refl _ _, fun _ _ _ _ => rfl⟩
theorem PK.trans {B b : Nat} {u v w : World} (h : PK B b u v) (k : PK B b v w) : PK B b u w :=
  ⟨h.below.trans k.below, fun i hi hb hn => by
    have e := h.block i hi hb hn
    rw [k.block i (Nat.lt_of_lt_of_le hi h.below.size) hb (by rw [e]; exact hn), e]⟩
theorem PK.of_below {B b : Nat} {w w' : World} (h : Below w.heap.size w w') (hB : B ≤ w.heap.size) : PK B b w w' := ⟨⟨h.os, h.tape, h.output, h.size, fun k hk => h.block k (by omega)⟩, fun k hk _ _ => h.block k hk⟩
theorem PK.blk {B b : Nat} {w w' : World} (h : PK B b w w') {k : Nat} {cs : Array Value} {t : TypeId} (hk : Blk w k cs t) (hne : k ≠ b) (ht : t ≠ 5) : Blk w' k cs t := by
  have hl := hk.lt
  unfold Blk at *
  rw [h.block k hl hne (fun c f e => by rw [hk] at e; injection e with e; injection e with _ e _; exact ht e)]
  exact hk
theorem brow_ne {w : World} {B b : Nat} {v : Value} {ys : List UInt8} {cs : Array Value} {t : TypeId} (h : BRow w B v ys) (hb : Blk w b cs t) (ht : t ≠ 5) (o : Nat) (x : Value) : BRow (w.setCell ⟨b, o, none⟩ x) B v ys := by
  obtain ⟨h1, h2 | ⟨g, cap, cur, hv, hg, hh, hr⟩⟩ := h
  · exact ⟨h1, Or.inl h2⟩
  · refine ⟨h1, Or.inr ⟨g, cap, cur, hv, hg, ?_, hr⟩⟩
    rw [Below.heap_setCell]
    · exact hh
    · rintro rfl
      unfold Blk at hb
      rw [hb] at hh
      injection hh with hh
      injection hh with _ e _
      exact ht e
theorem tw_ne : (54 : TypeId) ≠ 5 := by decide
theorem PK.set {B b : Nat} {w : World} (hb : B ≤ b) (o : Nat) (x : Value) : PK B b w (w.setCell ⟨b, o, none⟩ x) :=
  ⟨(Below.refl B w).setCell (p := ⟨b, o, none⟩) hb x, fun k hk hne _ => Below.heap_setCell _ _ _ _ hne⟩
theorem PK.kb {B b : Nat} {w w' : World} (h : KB B w w') : PK B b w w' := ⟨h.below, fun k hk _ hn => h.nb.block k hk hn⟩
set_option maxRecDepth 8000 in
set_option maxHeartbeats 2000000 in
theorem put_any (B b : Nat) (F : List UInt8) (s : ByteArray) (w : World) (h : WSt w B b F) (hl : F.length + s.size ≤ 1000000000000000000) :
    Calls Tryd.prog 20 #[.pointer (some ⟨b, 0, none⟩), .string s] w fun e w' => e = .returned (.tuple #[]) ∧ WSt w' B b (F ++ s.data.toList) ∧ PK B b w w' := by
  obtain ⟨⟨v, ys, hblk, hrow, hys, hyl⟩, hb, hB⟩ := h
  obtain ⟨va, vc, rfl⟩ := hrow.shape
  obtain ⟨⟨c0, c1⟩, z0, z1⟩ := hblk.two
  have hl1 : (F.length : Int) + (s.size : Int) ≤ 1000000000000000000 := by omega
  have hl0 : (0 : Int) ≤ (F.length : Int) := by omega
  have hs0 : (0 : Int) ≤ (s.size : Int) := by omega
  have hlen : ((F ++ s.data.toList).length : Int) = (F.length : Int) + (s.size : Int) := by rw [List.length_append, ← Lib.size_eq]; omega
  have hblk1 := hblk.set 1 (.int .i64 ((F.length : Int) + (s.size : Int)))
  have hrow1 := brow_ne hrow hblk tw_ne 1 (.int .i64 ((F.length : Int) + (s.size : Int)))
  have hsz1 : B ≤ (w.setCell ⟨b, 1, none⟩ (.int .i64 ((F.length : Int) + (s.size : Int)))).heap.size := by simp [World.setCell]; exact hB
  by_cases hbig : F.length + s.size ≤ 16777216
  · have hg : (F.length : Int) + (s.size : Int) ≤ 16777216 := by omega
    obtain ⟨v', w2, hr, hrow2, hkb⟩ := app_s3 s hrow1 hsz1 (by omega)
    obtain ⟨wa, wc, rfl⟩ := hrow2.shape
    have hblk2 : Blk w2 b (wbx (.slice va ys.length vc) ((F.length : Int) + (s.size : Int))) 54 := (PK.kb (b := w2.heap.size) hkb).blk hblk1 (by have h1 := hblk1.lt; have h2 := hkb.size; omega) tw_ne
    obtain ⟨⟨d0, d1⟩, y0, y1⟩ := hblk2.two
    have HR := hide hr
    have HFIN := hide (show WSt (w2.setCell ⟨b, 0, none⟩ (.slice wa (ys ++ s.data.toList).length wc)) B b (F ++ s.data.toList) ∧ PK B b w (w2.setCell ⟨b, 0, none⟩ (.slice wa (ys ++ s.data.toList).length wc)) by
      have hf : ys = F := hys (by omega)
      refine ⟨⟨⟨.slice wa (ys ++ s.data.toList).length wc, ys ++ s.data.toList, ?_, brow_ne hrow2 hblk2 tw_ne 0 _, fun _ => by rw [hf], ?_⟩, hb, ?_⟩, ?_⟩
      · have := hblk2.set 0 (.slice wa (ys ++ s.data.toList).length wc)
        rw [hlen]
        exact this
      · rw [hf, List.length_append, ← Lib.size_eq]; exact hbig
      · simp [World.setCell]; exact Nat.le_trans hsz1 hkb.size
      · exact ((PK.set hb 1 _).trans (PK.kb hkb)).trans (PK.set hb 0 _))
    clear hr hrow2 hkb hblk2 hrow1 hblk1 hrow hblk hys hyl hlen hsz1 hbig
    go_enter Tryd.func20, Tryd.ntmps20
    go_wp2_with (at_builtin; refine Lib.wpList_append_run _ rfl _ _ _ _ rfl _ _ rfl rfl _ _ HR.out ?_)
    go_end0
    exact ⟨rfl, by have h := HFIN.out; rw [List.length_append, ← Lib.size_eq] at h; exact h⟩
  · have hg : ¬ (F.length : Int) + (s.size : Int) ≤ 16777216 := by omega
    have HFIN := hide (show WSt (w.setCell ⟨b, 1, none⟩ (.int .i64 ((F.length : Int) + (s.size : Int)))) B b (F ++ s.data.toList) ∧ PK B b w (w.setCell ⟨b, 1, none⟩ (.int .i64 ((F.length : Int) + (s.size : Int)))) by
      refine ⟨⟨⟨.slice va ys.length vc, ys, ?_, hrow1, fun h => ?_, hyl⟩, hb, hsz1⟩, PK.set hb 1 _⟩
      · rw [hlen]; exact hblk1
      · rw [List.length_append, ← Lib.size_eq] at h; omega)
    clear hrow1 hblk1 hrow hblk hys hyl hlen hsz1 hbig
    go_enter Tryd.func20, Tryd.ntmps20
    go_wp2_with fail
    go_end0
    exact ⟨rfl, HFIN.out⟩
end Go.Proofs.YtlnkddmpcicejaaDoor
/-
  What the landed putEntry answers.
-/
namespace Go.Proofs.YtlnkddmpcicejaaDoor
open Go.RowKit Go.Deep
set_option linter.unusedVariables false

theorem itoa_any6 (n : Int) (w : World) (h0 : -9223372036854775808 ≤ n) (h1 : n ≤ 9223372036854775807) (hg : D2.Glo w) : Calls Tryd.prog 28 #[.int .i64 n] w fun e w' => e = .returned (.string ⟨(Lib.itoa n).toArray⟩) ∧ Below w.heap.size w w' := by
  refine (Any.strconv_Itoa laysM171 n h0 h1 w hg.tab).mono ?_
  rintro e w' ⟨rfl, k, os, rfl⟩
  exact ⟨rfl, ⟨rfl, rfl, rfl, by simp [Sort.grow], fun i hi => by
    show ((w.drewN k).heap ++ os)[i]? = _
    rw [Array.getElem?_append_left (by show i < w.heap.size; omega)]
    rfl⟩⟩
theorem prV_good6 (p : Pay) (T : BT Pay) (hg : 0 < goodV p T 0 0) (hl : (objT p T).length ≤ 1048576) : prV p T = .tuple #[.string ⟨(objT p T).toArray⟩, .int .i64 0] := by
  unfold prV
  rw [decide_eq_true hg, if_pos rfl, if_pos hl]
theorem prV_long6 (p : Pay) (T : BT Pay) (hg : 0 < goodV p T 0 0) (hl : ¬ (objT p T).length ≤ 1048576) : prV p T = .tuple #[.string ⟨#[]⟩, .int .i64 2] := by
  unfold prV
  rw [decide_eq_true hg, if_pos rfl, if_neg hl]
theorem WSt.below {w w' : World} {B b : Nat} {F : List UInt8} (h : WSt w B b F) (hb : Below w.heap.size w w') : WSt w' B b F := by
  obtain ⟨⟨v, ys, h1, h2, h3, h4⟩, h5, h6⟩ := h
  exact ⟨⟨v, ys, h1.below hb, ownsRow_kept h2 (fun k _ hk => hb.block k hk), h3, h4⟩, h5, Nat.le_trans h6 hb.size⟩
theorem WSt.lt {w : World} {B b : Nat} {F : List UInt8} (h : WSt w B b F) : b < w.heap.size := by
  obtain ⟨⟨v, ys, h1, _⟩, _, _⟩ := h
  exact h1.lt
theorem te_ne : (41 : TypeId) ≠ 5 := by decide
theorem to_ne : (39 : TypeId) ≠ 5 := by decide
theorem bytes_app (a : List UInt8) (b : ByteArray) : ((⟨a.toArray⟩ : ByteArray) ++ b).data.toList = a ++ b.data.toList := by rw [ByteArray.data_append]; simp
abbrev putF (b : Nat) : Value := .func (Fn.func 20) #[.pointer (some ⟨b, 0, none⟩)] #[]
def bdP (x : EP) : Pay := if x.st then addK x.p else x.p
def bdT (x : EP) : BT Pay := if x.st then snocF x.T (lenP x.da.size) else x.T
def strmT (x : EP) : List UInt8 := if x.st then [10, 115, 116, 114, 101, 97, 109, 10] ++ x.da.data.toList ++ [10, 101, 110, 100, 115, 116, 114, 101, 97, 109] else []
def entT (k : Nat) (x : EP) : List UInt8 := Lib.itoa (k : Int) ++ [32, 48, 32, 111, 98, 106, 10] ++ objT (bdP x) (bdT x) ++ strmT x ++ [10, 101, 110, 100, 111, 98, 106, 10]
set_option maxRecDepth 8000 in
set_option maxHeartbeats 4000000 in
theorem putEntry_plain (B b : Nat) (F : List UInt8) (k : Nat) (p : Pay) (T : BT Pay) (da : ByteArray) (ka : Option Addr) (kc : Nat) (ia : Option Addr) (ic : Nat) (w : World) (hw : WSt w B b F) (hin : OIn w p T ka kc ia ic) (hg : D2.Glo w) (hk : k ≤ 10000) (hbl : b < w.heap.size) (hF : F.length ≤ 100000000000000)
    (hgd : 0 < goodV p T 0 0) (hln : (objT p T).length ≤ 1048576) :
    Calls Tryd.prog 21 #[putF b, .int .i64 k, ev ⟨p, T, false, da⟩ ka kc ia ic] w fun e w' => e = .returned (.bool true) ∧ WSt w' B b (F ++ entT k ⟨p, T, false, da⟩) ∧ PK B b w w' := by
  have hmf : ∀ (fn : Fn) (first cap : Array Value) (w : World), (Instr.makeFunc fn first cap).run Tryd.prog w = .ok (.func fn first cap) w := fun _ _ _ _ => rfl
  have hb1 : Below w.heap.size w ((w.alloc (.cells (ebox ⟨p, T, false, da⟩ ka kc ia ic) 41)).alloc (.cells (obox p ka kc ia (flen T) ic) 39)) := ((Below.refl _ _).alloc (Nat.le_refl _) _).alloc (by simp) _
  have CP := hide (oprint_any p T ka kc ia ic _ (hin.below hb1) (hg.below hb1))
  rw [prV_good6 p T hgd hln] at CP
  have hio : (Lib.itoa (k : Int)).length ≤ 21 := Lib.itoa_length_le _ (by omega) (by omega)
  have HX := hide ((Blk.new w (ebox ⟨p, T, false, da⟩ ka kc ia ic) 41).below ((Below.refl _ _).alloc (Nat.le_refl _) (.cells (obox p ka kc ia (flen T) ic) 39)))
  have HB1 := hide hb1
  have HG := hide hg
  have HW := hide hw
  have PUT := hide (fun F' s w' h hl => put_any B b F' s w' h hl)
  obtain ⟨tx, htx⟩ : ∃ tx : ByteArray, ⟨(objT p T).toArray⟩ = tx := ⟨_, rfl⟩
  have htl : tx.data.toList = objT p T := by rw [← htx]
  have hts : (tx.size : Int) ≤ 1048576 := by rw [Lib.size_eq, htl]; omega
  rw [htx] at CP
  have HTL := hide htl
  clear hin hg hw hb1 htx htl hgd
  go_enter Tryd.func21, Tryd.ntmps21
  go_wp2_with fail
  refine CP.out.mono ?_
  rintro e w2 ⟨rfl, h2⟩
  have hb2 := below_t5 HB1.out h2
  have CI := hide (itoa_any6 (k : Int) w2 (by omega) (by omega) (HG.out.below hb2))
  have HB2 := hide hb2
  have HX2 := hide (HX.out.below h2)
  clear h2 hb2 CP HX
  obtain ⟨it, hit⟩ : ∃ it : ByteArray, ⟨(Lib.itoa (k : Int)).toArray⟩ = it := ⟨_, rfl⟩
  have hil : it.data.toList = Lib.itoa (k : Int) := by rw [← hit]
  have his : (it.size : Int) ≤ 21 := by rw [Lib.size_eq, hil]; omega
  rw [hit] at CI
  have HIL := hide hil
  clear hit hil
  go_wp2_with fail
  refine CI.out.mono ?_
  rintro e w3 ⟨rfl, h3⟩
  have HW3 := hide (HW.out.below (below_t5 HB2.out h3))
  have HX3 := hide (HX2.out.below h3)
  have HB3 := hide (below_t5 HB2.out h3)
  clear h3 CI HX2
  go_wp2_with fail
  refine (PUT.out F _ w3 HW3.out (by rw [ByteArray.size_append]; show F.length + (it.size + 7) ≤ _; omega)).mono ?_
  rintro e w4 ⟨rfl, hW4, hP4⟩
  have HW4 := hide hW4
  have HP4 := hide hP4
  clear hW4 hP4
  go_wp2_with fail
  refine (PUT.out _ _ w4 HW4.out (by rw [List.length_append, ← Lib.size_eq, ByteArray.size_append]; show F.length + (it.size + 7) + tx.size ≤ _; omega)).mono ?_
  rintro e w5 ⟨rfl, hW5, hP5⟩
  have HW5 := hide hW5
  have HP5 := hide (HP4.out.trans hP5)
  have hX5 := (HP4.out.trans hP5).blk HX3.out (by have := HW.out.lt; omega) te_ne
  obtain ⟨⟨x0, x1, x2, x3, x4, x5, x6, x7⟩, _⟩ := hX5.eight
  clear hW5 hP5 hX5
  go_wp2_with fail
  refine (PUT.out _ _ w5 HW5.out (by rw [List.length_append, List.length_append, ← Lib.size_eq, ← Lib.size_eq, ByteArray.size_append]; show F.length + (it.size + 7) + tx.size + 8 ≤ _; omega)).mono ?_
  rintro e w6 ⟨rfl, hW6, hP6⟩
  have HW6 := hide hW6
  have HP6 := hide (HP5.out.trans hP6)
  clear hW6 hP6
  go_wp2_with fail
  go_ret
  refine ⟨rfl, ?_, (PK.of_below HB3.out HW.out.hB).trans HP6.out⟩
  have h := HW6.out
  have e : F ++ (it ++ ⟨#[32, 48, 32, 111, 98, 106, 10]⟩ : ByteArray).data.toList ++ tx.data.toList ++ (⟨#[10, 101, 110, 100, 111, 98, 106, 10]⟩ : ByteArray).data.toList = F ++ entT k ⟨p, T, false, da⟩ := by
    unfold entT bdP bdT strmT
    rw [ByteArray.data_append, Array.toList_append, HIL.out, HTL.out]
    simp
  rw [e] at h
  exact h
end Go.Proofs.YtlnkddmpcicejaaDoor
/-
  What the landed putEntry answers: of a stream; of an entry whose text is too long.
-/
namespace Go.Proofs.YtlnkddmpcicejaaDoor
open Go.RowKit Go.Deep
set_option linter.unusedVariables false

set_option maxRecDepth 8000 in
set_option maxHeartbeats 4000000 in
theorem putEntry_plong (B b : Nat) (F : List UInt8) (k : Nat) (p : Pay) (T : BT Pay) (da : ByteArray) (ka : Option Addr) (kc : Nat) (ia : Option Addr) (ic : Nat) (w : World) (hw : WSt w B b F) (hin : OIn w p T ka kc ia ic) (hg : D2.Glo w)
    (hgd : 0 < goodV p T 0 0) (hln : ¬ (objT p T).length ≤ 1048576) :
    Calls Tryd.prog 21 #[putF b, .int .i64 k, ev ⟨p, T, false, da⟩ ka kc ia ic] w fun e w' => e = .returned (.bool false) ∧ PK B b w w' := by
  have hb1 : Below w.heap.size w ((w.alloc (.cells (ebox ⟨p, T, false, da⟩ ka kc ia ic) 41)).alloc (.cells (obox p ka kc ia (flen T) ic) 39)) := ((Below.refl _ _).alloc (Nat.le_refl _) _).alloc (by simp) _
  have CP := hide (oprint_any p T ka kc ia ic _ (hin.below hb1) (hg.below hb1))
  rw [prV_long6 p T hgd hln] at CP
  have HB1 := hide hb1
  have HW := hide hw
  clear hin hg hw hb1 hgd hln
  go_enter Tryd.func21, Tryd.ntmps21
  go_wp2_with fail
  refine CP.out.mono ?_
  rintro e w2 ⟨rfl, h2⟩
  have HB2 := hide (below_t5 HB1.out h2)
  clear h2
  go_wp2_with fail
  go_ret
  exact ⟨rfl, PK.of_below HB2.out HW.out.hB⟩
/- a stream -/
def PeR (B b : Nat) (F : List UInt8) (k : Nat) (x : EP) (w : World) (e : Ending) (w' : World) : Prop := (if (objT (bdP x) (bdT x)).length ≤ 1048576 then e = .returned (.bool true) ∧ WSt w' B b (F ++ entT k x) else e = .returned (.bool false)) ∧ PK B b w w'
set_option maxRecDepth 8000 in
set_option maxHeartbeats 4000000 in
theorem putEntry_stream (B b : Nat) (F : List UInt8) (k : Nat) (p : Pay) (T : BT Pay) (da : ByteArray) (ka : Option Addr) (kc : Nat) (ia : Option Addr) (ic : Nat) (w : World) (hw : WSt w B b F) (hin : OIn w p T ka kc ia ic) (hok : EOk ⟨p, T, true, da⟩) (hg : D2.Glo w) (hk : k ≤ 10000) (hF : F.length ≤ 100000000000000)
    (hgd : 0 < goodV (addK p) (snocF T (lenP da.size)) 0 0) :
    Calls Tryd.prog 21 #[putF b, .int .i64 k, ev ⟨p, T, true, da⟩ ka kc ia ic] w fun e w' => PeR B b F k ⟨p, T, true, da⟩ w e w' := by
  have hb1 : Below w.heap.size w ((w.alloc (.cells (ebox ⟨p, T, true, da⟩ ka kc ia ic) 41)).alloc (.cells (obox p ka kc ia (flen T) ic) 39)) := ((Below.refl _ _).alloc (Nat.le_refl _) _).alloc (by simp) _
  have CL := hide (withLength_any ⟨p, T, true, da⟩ ka kc ia ic w _ hb1 hin hok.1 hok.2.1 hok.2.2)
  have hda : (da.size : Int) ≤ 140737488351232 := by have := hok.1; simp only at this; omega
  have HX := hide ((Blk.new w (ebox ⟨p, T, true, da⟩ ka kc ia ic) 41).below ((Below.refl _ _).alloc (Nat.le_refl _) (.cells (obox p ka kc ia (flen T) ic) 39)))
  have HO : Hid (Blk ((w.alloc (.cells (ebox ⟨p, T, true, da⟩ ka kc ia ic) 41)).alloc (.cells (obox p ka kc ia (flen T) ic) 39)) (w.heap.size + 1) (obox p ka kc ia (flen T) ic) 39) := hide (by
    have := Blk.new (w.alloc (.cells (ebox ⟨p, T, true, da⟩ ka kc ia ic) 41)) (obox p ka kc ia (flen T) ic) 39
    rwa [show (w.alloc (.cells (ebox ⟨p, T, true, da⟩ ka kc ia ic) 41)).heap.size = w.heap.size + 1 by simp] at this)
  have hio : (Lib.itoa (k : Int)).length ≤ 21 := Lib.itoa_length_le _ (by omega) (by omega)
  have HB1 := hide hb1
  have HG := hide hg
  have HW := hide hw
  have HGD := hide hgd
  have PUT := hide (fun F' s w' h hl => put_any B b F' s w' h hl)
  clear hin hg hw hb1 hgd hok
  go_enter Tryd.func21, Tryd.ntmps21
  go_wp2_with fail
  refine CL.out.mono ?_
  rintro e w2 ⟨⟨a, c, a2, c2, rfl, hin2⟩, h2⟩
  have hO2 := HO.out.below h2
  have hX2 := HX.out.below h2
  have hs2 : w.heap.size + 1 + 1 ≤ w2.heap.size := by have := h2.size; simpa using this
  obtain ⟨_, z0, z1, z2, z3, z4, z5⟩ := hO2.six
  obtain ⟨⟨o0, o1, o2, o3, o4, o5⟩, _⟩ := hO2.six
  obtain ⟨W3, hW3⟩ : ∃ W3, st6 w2 (w.heap.size + 1) (.int .i64 p.kind) (.bool p.flag) (.int .i64 p.num) (.string p.text) (.slice a (p.keys.length + 1) c) (.slice a2 (flen (snocF T (lenP da.size))) c2) = W3 := ⟨_, rfl⟩
  have hO3 := st6_blk hO2 (.int .i64 p.kind) (.bool p.flag) (.int .i64 p.num) (.string p.text) (.slice a (p.keys.length + 1) c) (.slice a2 (flen (snocF T (lenP da.size))) c2)
  rw [hW3] at hO3
  have hW3' := hW3
  simp only [st6] at hW3'
  have hb3 : Below w.heap.size w W3 := by rw [← hW3]; exact st6_below (below_t5 HB1.out h2) (by omega) _ _ _ _ _ _
  have hin3 : OIn W3 (addK p) (snocF T (lenP da.size)) a c a2 c2 := hin2 W3 hb3 (by rw [← hW3, st6_size]; exact Nat.le_refl _) (fun i h1 h2 => by rw [← hW3]; exact st6_block (by simp at h1; omega) _ _ _ _ _ _)
  have hX3 : Blk W3 w.heap.size (ebox ⟨p, T, true, da⟩ ka kc ia ic) 41 := by
    unfold Blk at hX2 ⊢
    rw [← hW3, st6_block (by omega)]
    exact hX2
  have ek : (addK p).keys.length = p.keys.length + 1 := by simp
  have CP0 := oprint_any (addK p) (snocF T (lenP da.size)) a c a2 c2 W3 hin3 (HG.out.below hb3)
  simp only [ov] at CP0
  rw [ek] at CP0
  have CP := hide CP0
  clear CP0 ek
  obtain ⟨⟨q0, q1, q2, q3, q4, q5⟩, _⟩ := hO3.six
  have HX3 := hide hX3
  have HB3 := hide hb3
  have HW3 := hide hW3
  clear h2 hO2 hX2 hin2 hO3 hb3 hin3 hX3 CL HO HX hs2
  go_wp2_with fail
  refine CP.out.mono ?_
  rintro e w4 ⟨rfl, h4⟩
  have hb4 := below_t5 HB3.out h4
  have HX4 := hide (HX3.out.below h4)
  have HB4 := hide hb4
  clear h4 hW3' q0 q1 q2 q3 q4 q5 o0 o1 o2 o3 o4 o5 z0 z1 z2 z3 z4 z5 HX3 CP
  by_cases hln : (objT (addK p) (snocF T (lenP da.size))).length ≤ 1048576
  case neg =>
    rw [prV_long6 _ _ HGD.out hln]
    have HN := hide hln
    clear hln hb4
    go_wp2_with fail
    go_ret
    exact ⟨by rw [if_neg (show ¬ (objT (bdP ⟨p, T, true, da⟩) (bdT ⟨p, T, true, da⟩)).length ≤ 1048576 from HN.out)]; rfl, PK.of_below HB4.out HW.out.hB⟩
  rw [prV_good6 _ _ HGD.out hln]
  have HN := hide hln
  obtain ⟨tx, htx⟩ : ∃ tx : ByteArray, ⟨(objT (addK p) (snocF T (lenP da.size))).toArray⟩ = tx := ⟨_, rfl⟩
  have htl : tx.data.toList = objT (addK p) (snocF T (lenP da.size)) := by rw [← htx]
  have hts : (tx.size : Int) ≤ 1048576 := by rw [Lib.size_eq, htl]; omega
  rw [htx]
  have HTL := hide htl
  have CI := hide (itoa_any6 (k : Int) w4 (by omega) (by omega) (HG.out.below hb4))
  obtain ⟨it, hit⟩ : ∃ it : ByteArray, ⟨(Lib.itoa (k : Int)).toArray⟩ = it := ⟨_, rfl⟩
  have hil : it.data.toList = Lib.itoa (k : Int) := by rw [← hit]
  have his : (it.size : Int) ≤ 21 := by rw [Lib.size_eq, hil]; omega
  rw [hit] at CI
  have HIL := hide hil
  clear htx htl hit hil hln hb4
  go_wp2_with fail
  refine CI.out.mono ?_
  rintro e w5 ⟨rfl, h5⟩
  have HW5 := hide (HW.out.below (below_t5 HB4.out h5))
  have HX5 := hide (HX4.out.below h5)
  have HB5 := hide (below_t5 HB4.out h5)
  clear h5 CI HX4
  go_wp2_with fail
  refine (PUT.out F _ w5 HW5.out (by rw [ByteArray.size_append]; show F.length + (it.size + 7) ≤ _; omega)).mono ?_
  rintro e w6 ⟨rfl, hW6, hP6⟩
  have HW6 := hide hW6
  have HP6 := hide hP6
  clear hW6 hP6
  go_wp2_with fail
  refine (PUT.out _ _ w6 HW6.out (by
    rw [List.length_append]
    repeat rw [← Lib.size_eq]
    rw [ByteArray.size_append]
    show F.length + (it.size + 7) + tx.size ≤ _
    omega)).mono ?_
  rintro e w7 ⟨rfl, hW7, hP7⟩
  have HW7 := hide hW7
  have HP7 := hide (HP6.out.trans hP7)
  have hX7 := (HP6.out.trans hP7).blk HX5.out (by have := HW.out.lt; omega) te_ne
  obtain ⟨⟨x0, x1, x2, x3, x4, x5, x6, x7⟩, _⟩ := hX7.eight
  clear hW7 hP7 hX7
  go_wp2_with fail
  refine (PUT.out _ _ w7 HW7.out (by
    rw [List.length_append, List.length_append]
    repeat rw [← Lib.size_eq]
    rw [ByteArray.size_append]
    show F.length + (it.size + 7) + tx.size + 8 ≤ _
    omega)).mono ?_
  rintro e w8 ⟨rfl, hW8, hP8⟩
  have HW8 := hide hW8
  have HP8 := hide (HP7.out.trans hP8)
  have hX8 := (HP7.out.trans hP8).blk HX5.out (by have := HW.out.lt; omega) te_ne
  clear x0 x1 x2 x3 x4 x5 x6 x7
  obtain ⟨⟨x0, x1, x2, x3, x4, x5, x6, x7⟩, _⟩ := hX8.eight
  clear hW8 hP8 hX8
  go_wp2_with fail
  refine (PUT.out _ _ w8 HW8.out (by
    rw [List.length_append, List.length_append, List.length_append]
    repeat rw [← Lib.size_eq]
    rw [ByteArray.size_append]
    show F.length + (it.size + 7) + tx.size + 8 + da.size ≤ _
    omega)).mono ?_
  rintro e w9 ⟨rfl, hW9, hP9⟩
  have HW9 := hide hW9
  have HP9 := hide (HP8.out.trans hP9)
  clear hW9 hP9 x0 x1 x2 x3 x4 x5 x6 x7
  go_wp2_with fail
  refine (PUT.out _ _ w9 HW9.out (by
    rw [List.length_append, List.length_append, List.length_append, List.length_append]
    repeat rw [← Lib.size_eq]
    rw [ByteArray.size_append]
    show F.length + (it.size + 7) + tx.size + 8 + da.size + 10 ≤ _
    omega)).mono ?_
  rintro e w10 ⟨rfl, hW10, hP10⟩
  have HW10 := hide hW10
  have HP10 := hide (HP9.out.trans hP10)
  clear hW10 hP10
  go_wp2_with fail
  refine (PUT.out _ _ w10 HW10.out (by
    rw [List.length_append, List.length_append, List.length_append, List.length_append, List.length_append]
    repeat rw [← Lib.size_eq]
    rw [ByteArray.size_append]
    show F.length + (it.size + 7) + tx.size + 8 + da.size + 10 + 8 ≤ _
    omega)).mono ?_
  rintro e w11 ⟨rfl, hW11, hP11⟩
  have HW11 := hide hW11
  have HP11 := hide (HP10.out.trans hP11)
  clear hW11 hP11
  go_wp2_with fail
  go_ret
  refine ⟨?_, (PK.of_below HB5.out HW.out.hB).trans HP11.out⟩
  rw [if_pos (show (objT (bdP ⟨p, T, true, da⟩) (bdT ⟨p, T, true, da⟩)).length ≤ 1048576 from HN.out)]
  refine ⟨rfl, ?_⟩
  have h := HW11.out
  have e : F ++ (it ++ ⟨#[32, 48, 32, 111, 98, 106, 10]⟩ : ByteArray).data.toList ++ tx.data.toList ++ (⟨#[10, 115, 116, 114, 101, 97, 109, 10]⟩ : ByteArray).data.toList ++ da.data.toList ++ (⟨#[10, 101, 110, 100, 115, 116, 114, 101, 97, 109]⟩ : ByteArray).data.toList ++ (⟨#[10, 101, 110, 100, 111, 98, 106, 10]⟩ : ByteArray).data.toList = F ++ entT k ⟨p, T, true, da⟩ := by
    unfold entT bdP bdT strmT
    rw [ByteArray.data_append, Array.toList_append, HIL.out, HTL.out]
    simp
  rw [e] at h
  exact h
end Go.Proofs.YtlnkddmpcicejaaDoor
/-
  What the landed putEntry answers of any entry that may be; what putTable answers.
-/
namespace Go.Proofs.YtlnkddmpcicejaaDoor
open Go.RowKit Go.Deep
set_option linter.unusedVariables false

theorem putEntry_any (B b : Nat) (F : List UInt8) (k : Nat) (x : EP) (ka : Option Addr) (kc : Nat) (ia : Option Addr) (ic : Nat) (w : World) (hw : WSt w B b F) (hin : OIn w x.p x.T ka kc ia ic) (hok : EOk x) (hg : D2.Glo w) (hk : k ≤ 10000) (hF : F.length ≤ 100000000000000) (hm : mayV x = true) :
    Calls Tryd.prog 21 #[putF b, .int .i64 k, ev x ka kc ia ic] w fun e w' => PeR B b F k x w e w' := by
  obtain ⟨p, T, st, da⟩ := x
  cases st
  · unfold mayV at hm
    rw [if_neg (by simp), Bool.and_eq_true] at hm
    have hgd := of_decide_eq_true hm.2
    by_cases hln : (objT p T).length ≤ 1048576
    · refine (putEntry_plain B b F k p T da ka kc ia ic w hw hin hg hk hw.lt hF hgd hln).mono fun e w' ⟨h1, h2, h3⟩ => ⟨?_, h3⟩
      rw [if_pos (show (objT (bdP ⟨p, T, false, da⟩) (bdT ⟨p, T, false, da⟩)).length ≤ 1048576 from hln)]
      exact ⟨h1, h2⟩
    · refine (putEntry_plong B b F k p T da ka kc ia ic w hw hin hg hgd hln).mono fun e w' ⟨h1, h3⟩ => ⟨?_, h3⟩
      rw [if_neg (show ¬ (objT (bdP ⟨p, T, false, da⟩) (bdT ⟨p, T, false, da⟩)).length ≤ 1048576 from hln)]
      exact h1
  · unfold mayV at hm
    rw [if_pos rfl, Bool.and_eq_true] at hm
    exact putEntry_stream B b F k p T da ka kc ia ic w hw hin hok hg hk hF (of_decide_eq_true hm.2)
/- ten digits -/
abbrev nou : ByteArray := ⟨#[48, 48, 48, 48, 48, 48, 48, 48, 48, 48]⟩
def tenT (z : Int) : List UInt8 := List.replicate (10 - (Lib.itoa z).length) 48 ++ Lib.itoa z
def rowT (z : Int) : List UInt8 := tenT z ++ [32, 48, 48, 48, 48, 48, 32, 110, 32, 10]
def tabT (zs : List Int) : List UInt8 := [120, 114, 101, 102, 10, 48, 32] ++ Lib.itoa ((zs.length : Int) + 1) ++ [10] ++ [48, 48, 48, 48, 48, 48, 48, 48, 48, 48] ++ [32, 54, 53, 53, 51, 53, 32, 102, 32, 10] ++ zs.flatMap rowT
theorem nou_from (n : Nat) (h : n ≤ 10) : (nou.extract n 10).data.toList = List.replicate (10 - n) 48 := by
  rcases (show n = 0 ∨ n = 1 ∨ n = 2 ∨ n = 3 ∨ n = 4 ∨ n = 5 ∨ n = 6 ∨ n = 7 ∨ n = 8 ∨ n = 9 ∨ n = 10 by omega) with rfl | rfl | rfl | rfl | rfl | rfl | rfl | rfl | rfl | rfl | rfl <;> decide
theorem ti_ne : (3 : TypeId) ≠ 5 ∧ (3 : TypeId) ≠ 54 := by decide
theorem IRow.pk {w w' : World} {B b : Nat} {v : Value} {zs : List Int} {F : List UInt8} (h : IRow w B v zs) (hw : WSt w B b F) (hp : PK B b w w') : IRow w' B v zs := by
  obtain ⟨h1, h2 | ⟨g, cap, cur, hv, hg, hh, hr⟩⟩ := h
  · exact ⟨h1, Or.inl h2⟩
  · have hlt : g < w.heap.size := by
      rcases Nat.lt_or_ge g w.heap.size with h | h
      · exact h
      · rw [Array.getElem?_eq_none h] at hh; simp at hh
    refine ⟨h1, Or.inr ⟨g, cap, cur, hv, hg, ?_, hr⟩⟩
    rw [hp.block g hlt ?_ ?_]
    · exact hh
    · rintro rfl
      obtain ⟨⟨_, _, hb, _⟩, _, _⟩ := hw
      unfold Blk at hb
      rw [hb] at hh
      injection hh with hh
      injection hh with _ e _
      exact ti_ne.2 e.symm
    · intro c f e
      rw [hh] at e
      injection e with e
      injection e with _ e _
      exact ti_ne.1 e
theorem itoa_small6 (z : Int) (h0 : 0 ≤ z) (h1 : z ≤ 16777216) : 1 ≤ (Lib.itoa z).length ∧ (Lib.itoa z).length ≤ 8 := by
  obtain ⟨u, rfl⟩ : ∃ u : Nat, z = (u : Int) := ⟨z.natAbs, by omega⟩
  rw [D2.itoa_nat]
  have := D2.dec_len u (by omega)
  omega
theorem rowT_len (z : Int) (h0 : 0 ≤ z) (h1 : z ≤ 16777216) : (rowT z).length = 20 := by
  have := itoa_small6 z h0 h1
  unfold rowT tenT
  simp only [List.length_append, List.length_replicate, List.length_cons, List.length_nil]
  omega
theorem rows_len6 : ∀ zs : List Int, (∀ z ∈ zs, 0 ≤ z ∧ z ≤ 16777216) → (zs.flatMap rowT).length = 20 * zs.length
  | [], _ => rfl
  | z :: zs, h => by
    have h1 := rowT_len z (h z (by simp)).1 (h z (by simp)).2
    have h2 := rows_len6 zs (fun y hy => h y (by simp [hy]))
    rw [List.flatMap_cons, List.length_append, h1, h2, List.length_cons]
    omega
set_option maxRecDepth 8000 in
set_option maxHeartbeats 4000000 in
theorem putTable_any (B b : Nat) (F : List UInt8) (v : Value) (zs : List Int) (w : World) (hw : WSt w B b F) (hz : IRow w B v zs) (hn : zs.length ≤ 4096) (hb : ∀ z ∈ zs, 0 ≤ z ∧ z ≤ 16777216) (hG : ∀ w', Below B w w' → D2.Glo w') (hF : F.length ≤ 100000000000000) :
    Calls Tryd.prog 22 #[putF b, v] w fun e w' => e = .returned (.tuple #[]) ∧ WSt w' B b (F ++ tabT zs) ∧ PK B b w w' := by
  obtain ⟨va, vc, rfl, hL, hvc, hvm⟩ := hz.lst
  have PUT := hide (fun F' s w' h hl => put_any B b F' s w' h hl)
  have CI := hide (fun n w' h0 h1 (h : Below B w w') => itoa_any6 n w' h0 h1 (hG w' h))
  have HW := hide hw
  have HZ := hide hz
  have HBD := hide hb
  have hn' : (zs.length : Int) ≤ 4096 := by omega
  have hn0 : (0 : Int) ≤ (zs.length : Int) := by omega
  have hvc' : (zs.length : Int) ≤ 9223372036854775807 := by omega
  have hio : (Lib.itoa ((zs.length : Int) + 1)).length ≤ 21 := Lib.itoa_length_le _ (by omega) (by omega)
  clear hw hz hb hL hG
  go_enter Tryd.func22, Tryd.ntmps22
  go_wp2_with fail
  refine (CI.out _ w (by omega) (by omega) (Below.refl _ _)).mono ?_
  rintro e w1 ⟨rfl, h1⟩
  obtain ⟨it, hit⟩ : ∃ it : ByteArray, ⟨(Lib.itoa ((zs.length : Int) + 1)).toArray⟩ = it := ⟨_, rfl⟩
  have hil : it.data.toList = Lib.itoa ((zs.length : Int) + 1) := by rw [← hit]
  have his : (it.size : Int) ≤ 21 := by rw [Lib.size_eq, hil]; omega
  rw [hit]
  have HIL := hide hil
  have HW1 := hide (HW.out.below h1)
  have HP1 := hide (PK.of_below (b := b) h1 HW.out.hB)
  have HZ1 := hide (HZ.out.pk HW.out (PK.of_below (b := b) h1 HW.out.hB))
  clear hit hil h1
  go_wp2_with fail
  refine (PUT.out F _ w1 HW1.out (by
    repeat rw [ByteArray.size_append]
    show F.length + (7 + it.size + 1 + 10 + 10) ≤ _
    omega)).mono ?_
  rintro e w2 ⟨rfl, hW2, hP2⟩
  have HF2 := hide (show WSt w2 B b (F ++ ([120, 114, 101, 102, 10, 48, 32] ++ Lib.itoa ((zs.length : Int) + 1) ++ [10] ++ [48, 48, 48, 48, 48, 48, 48, 48, 48, 48] ++ [32, 54, 53, 53, 51, 53, 32, 102, 32, 10])) by
    have h := hW2
    repeat rw [ByteArray.data_append, Array.toList_append] at h
    rw [HIL.out] at h
    exact h)
  have HP2 := hide (HP1.out.trans hP2)
  have HZ2 := hide (HZ1.out.pk HW1.out hP2)
  have hhl : ([120, 114, 101, 102, 10, 48, 32] ++ Lib.itoa ((zs.length : Int) + 1) ++ [10] ++ [48, 48, 48, 48, 48, 48, 48, 48, 48, 48] ++ [32, 54, 53, 53, 51, 53, 32, 102, 32, 10]).length ≤ 100 := by simp; omega
  obtain ⟨G, hGG⟩ : ∃ G, [120, 114, 101, 102, 10, 48, 32] ++ Lib.itoa ((zs.length : Int) + 1) ++ [10] ++ [48, 48, 48, 48, 48, 48, 48, 48, 48, 48] ++ [32, 54, 53, 53, 51, 53, 32, 102, 32, 10] = G := ⟨_, rfl⟩
  rw [hGG] at HF2 hhl
  have HGG := hide hGG
  clear hW2 hP2 hGG HP1 HZ1 HW1
  go_wp2_with fail
  go_loopw [19] (fun vi wr => ∃ (k : Nat), vi = .int .i64 k ∧ Hid (k ≤ zs.length ∧ WSt wr B b (F ++ G ++ (zs.take k).flatMap rowT) ∧ PK B b w wr ∧ IRow wr B (.slice va zs.length vc) zs)) (fun vi _ => zs.length - (intOf vi).toNat)
  case atStart => exact ⟨0, rfl, hide ⟨Nat.zero_le _, by simpa using HF2.out, HP2.out, HZ2.out⟩⟩
  case round =>
    clear HF2 HP2 HZ2
    obtain ⟨k, rfl, HV⟩ := hrel
    obtain ⟨hk, hW, hP, hZ⟩ := HV.out
    have hk0 : (0 : Int) ≤ (k : Int) := by omega
    have HWk := hide hW
    have HPk := hide hP
    have HZk := hide hZ
    clear HV
    by_cases hlt : k < zs.length
    case neg =>
      have hlt' : ¬ (k : Int) < (zs.length : Int) := by omega
      have HFI := hide (show WSt wr B b (F ++ tabT zs) by
        have e : zs.take k = zs := List.take_of_length_le (by omega)
        rw [e, ← HGG.out] at hW
        unfold tabT
        rw [List.append_assoc] at hW
        exact hW)
      clear hW hP hZ hk hlt
      go_wp2_with fail
      go_end0
      exact ⟨rfl, HFI.out, HPk.out⟩
    case pos =>
      have hlt' : (k : Int) < (zs.length : Int) := by omega
      obtain ⟨za, zc, he, hL, _, _⟩ := hZ.lst
      obtain ⟨rfl, _, rfl⟩ : va = za ∧ zs.length = zs.length ∧ vc = zc := by injection he with e1 e2 e3; exact ⟨e1, e2, e3⟩
      obtain ⟨zb, zo, rfl, hzb, hzc⟩ : ∃ zb zo, va = some ⟨zb, zo, none⟩ ∧ zb < wr.heap.size ∧ wr.cell? ⟨zb, zo + k, none⟩ = some (.int .i64 (zs.getD k 0)) := by
        rcases hL with h | ⟨zb, zo, h1, h2, h3⟩
        · rw [h] at hlt; simp at hlt
        · exact ⟨zb, zo, h1, h2, h3 k hlt⟩
      have hzr := HBD.out (zs.getD k 0) (by rw [List.getD_eq_getElem?_getD, List.getElem?_eq_getElem hlt]; exact List.getElem_mem hlt)
      have htk : zs.take (k + 1) = zs.take k ++ [zs.getD k 0] := by
        rw [List.take_add_one, List.getElem?_eq_getElem hlt, List.getD_eq_getElem?_getD, List.getElem?_eq_getElem hlt]
        rfl
      have HTK := hide htk
      have hfl : ((zs.take k).flatMap rowT).length ≤ 100 * 4096 := by
        rw [rows_len6 _ (fun z hz => HBD.out z (List.mem_of_mem_take hz)), List.length_take]
        omega
      generalize zs.getD k 0 = z at hzc hzr HTK
      have hz8 := itoa_small6 z hzr.1 hzr.2
      have CIz := hide (CI.out z wr (by omega) (by omega) HPk.out.below)
      obtain ⟨iz, hiz⟩ : ∃ iz : ByteArray, ⟨(Lib.itoa z).toArray⟩ = iz := ⟨_, rfl⟩
      have hizl : iz.data.toList = Lib.itoa z := by rw [← hiz]
      have hizs : iz.size = (Lib.itoa z).length := by rw [Lib.size_eq, hizl]
      have hiz8 : (iz.size : Int) ≤ 8 := by omega
      have hiz0 : (0 : Int) ≤ (iz.size : Int) := by omega
      rw [hiz] at CIz
      have HIZ := hide (show iz.data.toList = Lib.itoa z ∧ iz.size = (Lib.itoa z).length ∧ iz.size ≤ 10 from ⟨hizl, hizs, by omega⟩)
      have HLT := hide hlt
      have HFL := hide hfl
      clear hW hP hZ hk hlt htk hfl hL he hiz hizl hizs hz8 hzr
      go_wp2_with fail
      refine CIz.out.mono ?_
      rintro e w5 ⟨rfl, h5⟩
      have HW5 := hide (HWk.out.below h5)
      have HP5 := hide (PK.of_below (b := b) h5 HWk.out.hB)
      clear h5
      go_wp2_with fail
      refine (PUT.out _ _ w5 HW5.out (by
        repeat rw [List.length_append]
        repeat rw [ByteArray.size_append]
        have e1 : (nou.extract iz.size 10).size ≤ 10 := by rw [Lib.size_eq, nou_from iz.size HIZ.out.2.2]; simp
        have e2 := HFL.out
        show F.length + G.length + ((zs.take k).flatMap rowT).length + ((nou.extract iz.size 10).size + iz.size + 10) ≤ _
        omega)).mono ?_
      rintro e w6 ⟨rfl, hW6, hP6⟩
      have HW6 := hide hW6
      have HP6 := hide (HP5.out.trans hP6)
      clear hW6 hP6
      go_wp2_with fail
      go_roundw
      case rel =>
        refine ⟨k + 1, by go_num, hide ⟨HLT.out, ?_, HPk.out.trans HP6.out, HZk.out.pk HWk.out HP6.out⟩⟩
        have h := HW6.out
        rw [HTK.out, List.flatMap_append]
        rw [ByteArray.data_append, ByteArray.data_append, Array.toList_append, Array.toList_append, nou_from iz.size HIZ.out.2.2, HIZ.out.1, HIZ.out.2.1] at h
        have e : [z].flatMap rowT = List.replicate (10 - (Lib.itoa z).length) 48 ++ Lib.itoa z ++ [32, 48, 48, 48, 48, 48, 32, 110, 32, 10] := by simp [rowT, tenT]
        rw [e, ← List.append_assoc]
        exact h
      case measure => have := HLT.out; simp [intOf]; omega
end Go.Proofs.YtlnkddmpcicejaaDoor
/-
  What the landed putTrailer answers.
-/
namespace Go.Proofs.YtlnkddmpcicejaaDoor
open Go.RowKit Go.Deep
set_option linter.unusedVariables false

abbrev sizS : ByteArray := ⟨#[83, 105, 122, 101]⟩
abbrev rooS : ByteArray := ⟨#[82, 111, 111, 116]⟩
abbrev trP : Pay := ⟨7, false, 0, ⟨#[]⟩, [sizS, rooS]⟩
abbrev trT (size root : Int) : BT Pay := .node 0 0 ⟨2, false, size, ⟨#[]⟩, []⟩ .nil (.node 0 0 ⟨8, false, root, ⟨#[]⟩, []⟩ .nil .nil)
theorem flat8_6 (x : Int) : flatV ⟨8, false, x, ⟨#[]⟩, []⟩ 0 = decide (1 ≤ x ∧ x ≤ 4096) := by
  unfold flatV
  simp [ByteArray.size]
theorem flat2_6 (x : Int) : flatV ⟨2, false, x, ⟨#[]⟩, []⟩ 0 = decide (-1099511627776 ≤ x ∧ x ≤ 1099511627776) := by
  unfold flatV
  simp [ByteArray.size]
theorem tr_good (size root : Int) (h1 : 0 ≤ size ∧ size ≤ 10000) (h2 : 1 ≤ root ∧ root ≤ 4096) : 0 < goodV trP (trT size root) 0 0 := by
  have f7 : flatV trP (flen (trT size root)) = true := by
    show flatV trP 2 = true
    decide
  have f2 : flatV ⟨2, false, size, ⟨#[]⟩, []⟩ 0 = true := by rw [flat2_6]; exact decide_eq_true (by omega)
  have f8 : flatV ⟨8, false, root, ⟨#[]⟩, []⟩ 0 = true := by rw [flat8_6]; exact decide_eq_true (by omega)
  unfold goodV gV
  rw [if_neg (by rw [f7]; simp), if_pos (by decide), if_neg (by omega)]
  simp only [goodF, gV, flen, f2, f8, cont]
  simp
theorem tr_len (size root : Int) (h1 : 0 ≤ size ∧ size ≤ 10000) (h2 : 1 ≤ root ∧ root ≤ 4096) : (objT trP (trT size root)).length ≤ 1000 := by
  have a1 := intT_len size (by omega)
  have a2 := intT_len root (by omega)
  have e : objT trP (trT size root) = 60 :: 60 :: (nameT sizS.data.toList ++ [32] ++ intT size ++ [32] ++ nameT rooS.data.toList ++ [32] ++ (intT root ++ [32, 48, 32, 82]) ++ [62, 62]) := by
    simp [objT, objV, forT, atomT]
  rw [e]
  have b1 := nameT_len sizS.data.toList
  have b2 := nameT_len rooS.data.toList
  simp only [List.length_cons, List.length_append, List.length_nil] at *
  omega
def trlT (size root xref : Int) : List UInt8 := [116, 114, 97, 105, 108, 101, 114, 10] ++ objT trP (trT size root) ++ [10, 115, 116, 97, 114, 116, 120, 114, 101, 102, 10] ++ Lib.itoa xref ++ [10, 37, 37, 69, 79, 70, 10]
abbrev trI (size root : Int) : Array Value := #[.int .i64 2, .bool false, .int .i64 size, .string ⟨#[]⟩, .slice none 0 0, .slice none 0 0, .int .i64 8, .bool false, .int .i64 root, .string ⟨#[]⟩, .slice none 0 0, .slice none 0 0]
theorem tr_lies (w : World) (size root : Int) (h1 : 0 ≤ size ∧ size ≤ 10000) (h2 : 1 ≤ root ∧ root ≤ 4096) :
    OIn ((w.alloc (.cells #[.string sizS, .string rooS] 9)).alloc (.cells (trI size root) 39)) trP (trT size root) (some ⟨w.heap.size, 0, none⟩) 2 (some ⟨w.heap.size + 1, 0, none⟩) 2 := by
  have hS : Blk ((w.alloc (.cells #[.string sizS, .string rooS] 9)).alloc (.cells (trI size root) 39)) w.heap.size #[.string sizS, .string rooS] 9 := (Blk.new w _ _).below ((Below.refl _ _).alloc (Nat.le_refl _) _)
  have hI : Blk ((w.alloc (.cells #[.string sizS, .string rooS] 9)).alloc (.cells (trI size root) 39)) (w.heap.size + 1) (trI size root) 39 := by
    have := Blk.new (w.alloc (.cells #[.string sizS, .string rooS] 9)) (trI size root) 39
    rwa [show (w.alloc (.cells #[.string sizS, .string rooS] 9)).heap.size = w.heap.size + 1 by simp] at this
  generalize (w.alloc (.cells #[.string sizS, .string rooS] 9)).alloc (.cells (trI size root) 39) = W at hS hI ⊢
  have leaf : ∀ (k n : Int), 0 ≤ k ∧ k ≤ 100 → 0 ≤ n ∧ n ≤ 10000 → OIn W ⟨k, false, n, ⟨#[]⟩, []⟩ .nil none 0 none 0 := fun k n hk hn => ⟨⟨by simp only; omega, by simp only; omega, by show (0 : Nat) ≤ _; omega, by simp⟩, ⟨Or.inl rfl, ⟨by simp, by simp⟩, Nat.zero_le _⟩, ⟨by simp [flen], by simp [flen]⟩, Nat.zero_le _, Or.inl rfl⟩
  refine ⟨⟨by simp only; omega, by simp only; omega, by show (0 : Nat) ≤ _; omega, ?_⟩, ⟨Or.inr ⟨w.heap.size, 0, rfl, hS.lt, ?_⟩, ⟨by decide, by decide⟩, by omega⟩, ⟨by simp [flen], by simp [flen]⟩, by omega, Or.inr ⟨w.heap.size + 1, 0, rfl, hI.lt, ?_⟩⟩
  · intro s hs
    simp at hs
    rcases hs with rfl | rfl <;> decide
  · intro i hi
    have hi : i < 2 := hi
    rcases (show i = 0 ∨ i = 1 by omega) with rfl | rfl
    · exact hS.cell 0
    · exact hS.cell 1
  · exact rows_node.2 ⟨⟨none, 0, none, 0, ⟨hI.cell 0, hI.cell 1, hI.cell 2, hI.cell 3, hI.cell 4, hI.cell 5⟩, leaf 2 size (by omega) h1⟩, rows_node.2 ⟨⟨none, 0, none, 0, ⟨hI.cell 6, hI.cell 7, hI.cell 8, hI.cell 9, hI.cell 10, hI.cell 11⟩, leaf 8 root (by omega) (by omega)⟩, trivial⟩⟩
set_option maxRecDepth 8000 in
set_option maxHeartbeats 4000000 in
theorem putTrailer_any (B b : Nat) (F : List UInt8) (size root xref : Int) (w : World) (hw : WSt w B b F) (h1 : 0 ≤ size ∧ size ≤ 10000) (h2 : 1 ≤ root ∧ root ≤ 4096) (h3 : 0 ≤ xref ∧ xref ≤ 1000000000000) (hG : ∀ w', Below B w w' → D2.Glo w') (hF : F.length ≤ 100000000000000) :
    Calls Tryd.prog 23 #[putF b, .int .i64 size, .int .i64 root, .int .i64 xref] w fun e w' => e = .returned (.tuple #[]) ∧ WSt w' B b (F ++ trlT size root xref) ∧ PK B b w w' := by
  have hb1 : Below w.heap.size w ((w.alloc (.cells #[.string sizS, .string rooS] 9)).alloc (.cells (trI size root) 39)) := ((Below.refl _ _).alloc (Nat.le_refl _) _).alloc (by simp) _
  have hbB : ∀ w', Below w.heap.size w w' → Below B w w' := fun w' h => (PK.of_below (b := b) h hw.hB).below
  have CP := hide (oprint_any trP (trT size root) (some ⟨w.heap.size, 0, none⟩) 2 (some ⟨w.heap.size + 1, 0, none⟩) 2 _ (tr_lies w size root h1 h2) (hG _ (hbB _ hb1)))
  rw [prV_good6 _ _ (tr_good size root h1 h2) (by have := tr_len size root h1 h2; omega)] at CP
  have PUT := hide (fun F' s w' h hl => put_any B b F' s w' h hl)
  have CI := hide (fun w' (h : Below w.heap.size w w') => itoa_any6 xref w' (by omega) (by omega) (hG w' (hbB w' h)))
  have HW := hide hw
  have HB1 := hide hb1
  have hio : (Lib.itoa xref).length ≤ 21 := Lib.itoa_length_le _ (by omega) (by omega)
  obtain ⟨tx, htx⟩ : ∃ tx : ByteArray, ⟨(objT trP (trT size root)).toArray⟩ = tx := ⟨_, rfl⟩
  have htl : tx.data.toList = objT trP (trT size root) := by rw [← htx]
  have hts : (tx.size : Int) ≤ 1000 := by rw [Lib.size_eq, htl]; have := tr_len size root h1 h2; omega
  rw [htx] at CP
  have HTL := hide htl
  clear hw hb1 hbB htx htl hG
  go_enter Tryd.func23, Tryd.ntmps23
  go_wp2_with fail
  refine CP.out.mono ?_
  rintro e w2 ⟨rfl, h2'⟩
  have HB2 := hide (below_t5 HB1.out h2')
  clear h2' CP
  obtain ⟨it, hit⟩ : ∃ it : ByteArray, ⟨(Lib.itoa xref).toArray⟩ = it := ⟨_, rfl⟩
  have hil : it.data.toList = Lib.itoa xref := by rw [← hit]
  have his : (it.size : Int) ≤ 21 := by rw [Lib.size_eq, hil]; omega
  rw [hit] at CI
  have HIL := hide hil
  clear hit hil
  go_wp2_with fail
  refine (CI.out w2 HB2.out).mono ?_
  rintro e w3 ⟨rfl, h3'⟩
  have HB3 := hide (below_t5 HB2.out h3')
  clear h3'
  go_wp2_with fail
  refine (PUT.out F _ w3 (HW.out.below HB3.out) (by
    repeat rw [ByteArray.size_append]
    show F.length + (8 + tx.size + 11 + it.size + 7) ≤ _
    omega)).mono ?_
  rintro e w4 ⟨rfl, hW4, hP4⟩
  have HF4 := hide (show WSt w4 B b (F ++ trlT size root xref) by
    have h := hW4
    repeat rw [ByteArray.data_append, Array.toList_append] at h
    rw [HIL.out, HTL.out] at h
    exact h)
  have HP4 := hide hP4
  clear hW4 hP4
  go_wp2_with fail
  go_end0
  exact ⟨rfl, HF4.out, (PK.of_below HB3.out HW.out.hB).trans HP4.out⟩
end Go.Proofs.YtlnkddmpcicejaaDoor
/-
  A place more at the end of the places; the writer stands beside it. What lay lays, in plain words.
-/
namespace Go.Proofs.YtlnkddmpcicejaaDoor
open Go.RowKit Go.Deep
set_option linter.unusedVariables false

theorem ints_one (l : List Int) : ∀ u ∈ l.map (Value.int .i64), u.oneCell' = true := fun u hu => by
  obtain ⟨_, _, rfl⟩ := List.mem_map.1 hu
  rfl
/- all blocks but one row of ints stand -/
structure IK (B : Nat) (w w' : World) : Prop where
  below : Below B w w'
  block : ∀ k, k < w.heap.size → (∀ c f, w.heap[k]? ≠ some (.cells c 3 f)) → w'.heap[k]? = w.heap[k]?
theorem IK.blk {B : Nat} {w w' : World} (h : IK B w w') {k : Nat} {cs : Array Value} {t : TypeId} (hk : Blk w k cs t) (ht : t ≠ 3) : Blk w' k cs t := by
  have hl := hk.lt
  unfold Blk at *
  rw [h.block k hl (fun c f e => by rw [hk] at e; injection e with e; injection e with _ e _; exact ht e)]
  exact hk
theorem BRow.ik {B : Nat} {w w' : World} {v : Value} {ys : List UInt8} (h : BRow w B v ys) (hi : IK B w w') : BRow w' B v ys := by
  obtain ⟨h1, h2 | ⟨g, cap, cur, hv, hg, hh, hr⟩⟩ := h
  · exact ⟨h1, Or.inl h2⟩
  · have hlt : g < w.heap.size := by
      rcases Nat.lt_or_ge g w.heap.size with h | h
      · exact h
      · rw [Array.getElem?_eq_none h] at hh; simp at hh
    refine ⟨h1, Or.inr ⟨g, cap, cur, hv, hg, ?_, hr⟩⟩
    rw [hi.block g hlt (fun c f e => by rw [hh] at e; injection e with e; injection e with _ e _; exact ti_ne.1 e.symm)]
    exact hh
theorem WSt.ik {B b : Nat} {w w' : World} {F : List UInt8} (h : WSt w B b F) (hi : IK B w w') : WSt w' B b F := by
  obtain ⟨⟨v, ys, h1, h2, h3, h4⟩, h5, h6⟩ := h
  exact ⟨⟨v, ys, hi.blk h1 (fun e => ti_ne.2 e.symm), h2.ik hi, h3, h4⟩, h5, Nat.le_trans h6 hi.below.size⟩
theorem app_i {W : World} {B : Nat} {v : Value} {zs : List Int} (z : Int) (h : IRow W B v zs) (hB : B ≤ W.heap.size) (hl : zs.length + 1 ≤ 1000000) (H : Nat) (hH : W.heap.size = H) :
    ∃ a cap w2, (Builtin.append_ #[31, 31] 31 #[v, .slice (some ⟨H, 0, none⟩) 1 1]).run Tryd.prog (W.alloc (.cells #[.int .i64 z] 3)) = .ok (.slice a (zs.length + 1) cap) w2 ∧ IRow w2 B (.slice a (zs.length + 1) cap) (zs ++ [z]) ∧ IK B W w2 := by
  obtain ⟨i0, hi, hz0, hz1, hz2⟩ := info_parts5 info_int
  subst hH
  obtain ⟨g, cap, w2, hr, ho, hg, _, _⟩ := run_append_lies (P := Tryd.prog) (W.alloc (.cells #[.int .i64 z] 3)) 31 31 B 3 i0 _ 1 8 Tryd.underlying31 hi hz0 hz1 hz2 rfl (by decide) v zs.length (zs.map (Value.int .i64)) (World.ownsRow.alloc h _) ⟨W.heap.size, 0, none⟩ 1 1 [.int .i64 z] (by simp)
    (fun j u hu => by rw [Go.WideShapes.add_plain, Nat.zero_add, World.cell?_alloc_at _ _ _ _ rfl]; simpa using hu) (fun u hu => by simp at hu; subst hu; rfl) (by decide) (by unfold maxLen; omega) (by omega) (by simp; omega) (W.heap.size + 1) (by simp)
  refine ⟨_, _, w2, hr, ?_, ((Below.refl B W).alloc hB _).grown hg (by simp; omega) fun k hk' => (World.ownsRow.lt h k hk').1, fun k hk hn => ?_⟩
  · unfold IRow
    rw [List.map_append, List.length_append]
    exact ho
  · have e1 : (W.alloc (.cells #[.int .i64 z] 3)).heap[k]? = W.heap[k]? := Below.heap_alloc _ _ _ hk
    rw [← e1]
    refine hg.block k (by simp; omega) (fun e => ?_)
    obtain ⟨_, ⟨h0, _⟩ | ⟨g', cap', cur, hv, _, hh, _⟩⟩ := h
    · rw [h0] at e; simp [Value.ownBlock] at e
    · rw [hv] at e
      have : k = g' := by simpa [Value.ownBlock] using e
      subst this
      exact hn _ _ hh
/- what lay lays: the entries' text and their places; none: something is too long -/
def hdrT : List UInt8 := [37, 80, 68, 70, 45, 49, 46, 55, 10, 37, 226, 227, 207, 211, 10]
def layG : Nat → List EP → List UInt8 → List Int → Option (List UInt8 × List Int)
  | _, [], F, zs => some (F, zs)
  | k, x :: l, F, zs => if (objT (bdP x) (bdT x)).length ≤ 1048576 ∧ (F ++ entT (k + 1) x).length ≤ 16777216 then layG (k + 1) l (F ++ entT (k + 1) x) (zs ++ [(F.length : Int)]) else none
def layV (l : List EP) (root : Int) : Option (List UInt8 × List Int) := match layG 0 l hdrT [] with
  | none => none
  | some (F, zs) => if (F ++ tabT zs ++ trlT ((zs.length : Int) + 1) root F.length).length ≤ 16777216 then some (F ++ tabT zs ++ trlT ((zs.length : Int) + 1) root F.length, zs ++ [(F.length : Int)]) else none
end Go.Proofs.YtlnkddmpcicejaaDoor
