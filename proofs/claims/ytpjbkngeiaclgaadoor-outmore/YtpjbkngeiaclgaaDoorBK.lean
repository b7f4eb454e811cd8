/-
  Joined: O5RTa, O5RTb, O5RTd, O5RPr.
-/
import Derived.Test.YtpjbkngeiaclgaaDoorBF
import Derived.Test.YtpjbkngeiaclgaaDoorBJ
import Derived.Test.YtpjbkngeiaclgaaDoorBH
import Derived.Deep.RegionHeld3
import Derived.Test.YtpjbkngeiaclgaaDoorBC
/-
  What the reference's text and Print answer: of any good object.
-/
namespace Go.Proofs.YtpjbkngeiaclgaaDoor
open Go.RowKit Go.Deep

def RtIH (W : World) (M : Nat) : Prop := ∀ (p : Pay) (T : BT Pay) (ka : Option Addr) (kc : Nat) (ia : Option Addr) (ic : Nat) (v : Value) (ys : List UInt8) (w : World), fsize T < M → fine p T → OIn W p T ka kc ia ic → Below W.heap.size W w → BRow w W.heap.size v ys →
  ys.length + (objT p T).length + 1000000 ≤ 140737488355328 → Calls Tryd.prog 42 #[v, ov p ka kc ia (flen T) ic] w (AtR W.heap.size w (ys ++ objT p T))
/- a row within a call: its bytes, and what has been left alone since wA -/
structure RI (B : Nat) (wA x : World) (V : Value) (zs : List UInt8) : Prop where
  row : BRow x B V zs
  kb : KB B wA x
  size : B ≤ x.heap.size
theorem RI.alloc {B : Nat} {wA x : World} {V : Value} {zs : List UInt8} (h : RI B wA x V zs) (o : Obj) : RI B wA (x.alloc o) V zs := ⟨World.ownsRow.alloc h.row o, h.kb.trans (KB.alloc x o h.size), by simp; have := h.size; omega⟩
theorem RI.drew {B : Nat} {wA x : World} {V : Value} {zs : List UInt8} (h : RI B wA x V zs) : RI B wA x.drew V zs :=
  ⟨h.row, ⟨⟨h.kb.below.os, h.kb.below.tape, h.kb.below.output, h.kb.below.size, h.kb.below.block⟩, ⟨h.kb.nb.size, h.kb.nb.block⟩⟩, h.size⟩
theorem RI.below {B : Nat} {wA x y : World} {V : Value} {zs : List UInt8} (h : RI B wA x V zs) (hy : Below x.heap.size x y) : RI B wA y V zs := ⟨h.row.later hy, h.kb.trans (KB.of_below h.size hy), Nat.le_trans h.size hy.size⟩
theorem Blk.far {x y : World} {H : Nat} {cs : Array Value} {t : TypeId} {B : Nat} {V : Value} {zs : List UInt8} {x0 : World} (h : Blk x H cs t) (hg : x.grownBy y V.ownBlock) (hr : BRow x0 B V zs) (hx : x0.heap.size ≤ H) : Blk y H cs t := by
  have hl := h.lt
  unfold Blk at *
  rw [hg.block H hl (fun e => by have := (World.ownsRow.lt hr H e.symm).2; omega)]
  exact h
theorem step_app_s {w : World} {ops : Array Oper} {o : Oper} {a : Act} {K : Act → World → Prop} {Q : Exit → Act → World → Prop} {E : Prop} (hgd : o.guard = none) (s x : Operand)
    (ho : o.op = .call { callee := .builtin .append, args := #[s, x], argTypes := #[53, 9] }) (ht : o.type = 53) (vs : Value) (bs : ByteArray) (hs : a.eval s = vs) (hx : a.eval x = .string bs)
    {B : Nat} {wA : World} {zs : List UInt8} (h : RI B wA w vs zs) (hl : zs.length + bs.size ≤ 140737488355328)
    (hk : ∀ v' w', RI B wA w' v' (zs ++ bs.data.toList) → w.grownBy w' vs.ownBlock → K (a.put o.dst v') w') :
    if Region.wanted o (yielded ops a.tmps) = true then Oper.wp Tryd.prog o a w K Q else E := by
  obtain ⟨i0, hi, hz0, hz1, hz2⟩ := info_parts5 info_u8
  obtain ⟨v', w2, hr, ho2, hg, _⟩ := Lib.run_append_own_string (P := Tryd.prog) w B 53 9 53 5 i0 Tryd.underlying53 Tryd.underlying9 hi hz0 hz1 hz2 vs zs.length (zs.map bcell) h.row bs (by unfold maxLen; omega) hl h.size
  have hb2 : BRow w2 B v' (zs ++ bs.data.toList) := by
    unfold BRow
    rw [List.map_append, List.length_append, ← Lib.size_eq, ← strCells_b]
    exact ho2
  have hkb : KB B w w2 := ⟨(Below.refl B w).grown hg h.size fun k hk' => (World.ownsRow.lt h.row k hk').1, NB.grown h.row hg⟩
  refine step_append_run w hgd s x _ _ ho vs (.string bs) hs hx v' w2 (by rw [ht]; exact hr) (hk v' w2 ⟨hb2, h.kb.trans hkb, Nat.le_trans h.size hg.size⟩ hg)
theorem step_app_c {w : World} {ops : Array Oper} {o : Oper} {a : Act} {K : Act → World → Prop} {Q : Exit → Act → World → Prop} {E : Prop} (hgd : o.guard = none) (s x : Operand)
    (ho : o.op = .call { callee := .builtin .append, args := #[s, x], argTypes := #[53, 53] }) (ht : o.type = 53) (vs : Value) (H : Nat) (hs : a.eval s = vs) (hx : a.eval x = .slice (some ⟨H, 0, none⟩) 1 1)
    {B : Nat} {wA : World} {zs : List UInt8} (c : UInt8) (h : RI B wA w vs zs) (hc : Blk w H #[bcell c] 5) (hl : zs.length + 1 ≤ 140737488355328)
    (hk : ∀ v' w', RI B wA w' v' (zs ++ [c]) → K (a.put o.dst v') w') :
    if Region.wanted o (yielded ops a.tmps) = true then Oper.wp Tryd.prog o a w K Q else E := by
  obtain ⟨i0, hi, hz0, hz1, hz2⟩ := info_parts5 info_u8
  obtain ⟨g, cap, w2, hr, ho2, hg, _, _⟩ := run_append_lies (P := Tryd.prog) w 53 53 B 5 i0 _ 1 1 Tryd.underlying53 hi hz0 hz1 hz2 rfl (by decide) vs zs.length (zs.map bcell) h.row ⟨H, 0, none⟩ 1 1 [bcell c] rfl
    (World.news_of_block hc) (bcells_one [c]) (by decide) (by unfold maxLen; omega) (by omega) h.size _ rfl
  have hb2 : BRow w2 B (.slice (some ⟨g, 0, none⟩) (zs.length + 1) cap) (zs ++ [c]) := by
    unfold BRow
    rw [List.map_append, List.length_append]
    exact ho2
  have hkb : KB B w w2 := ⟨(Below.refl B w).grown hg h.size fun k hk' => (World.ownsRow.lt h.row k hk').1, NB.grown h.row hg⟩
  refine step_append_run w hgd s x _ _ ho vs _ hs hx _ w2 (by rw [ht]; exact hr) (hk _ w2 ⟨hb2, h.kb.trans hkb, Nat.le_trans h.size hg.size⟩)
set_option maxRecDepth 8000 in
set_option maxHeartbeats 1000000 in
theorem rt_bool (p : Pay) (n : Nat) (ka : Option Addr) (kc : Nat) (ia : Option Addr) (ic : Nat) (v : Value) (ys : List UInt8) (B : Nat) (w : World) (hk : p.kind = 1) (h : BRow w B v ys) (hB : B ≤ w.heap.size) (hle : ys.length + 1000000 ≤ 140737488355328) :
    Calls Tryd.prog 42 #[v, ov p ka kc ia n ic] w (AtR B w (ys ++ boolT p.flag)) := by
  obtain ⟨kind, flag, num, text, keys⟩ := p
  obtain rfl : kind = 1 := hk
  cases flag
  · have hk := KB.alloc w (.cells (obox ⟨1, false, num, text, keys⟩ ka kc ia n ic) 44) hB
    obtain ⟨v2, w2, hr2, hb2, hw2⟩ := app_s3 (W := w.alloc (.cells (obox ⟨1, false, num, text, keys⟩ ka kc ia n ic) 44)) ⟨#[102, 97, 108, 115, 101]⟩ (World.ownsRow.alloc h _) (Nat.le_trans hB hk.size) (by show _ + 5 ≤ _; omega)
    have HR := hide hr2
    have HF : Hid (AtR B w (ys ++ boolT false) (.returned v2) w2) := hide ⟨v2, rfl, hb2, hk.trans hw2⟩
    clear h hB hle hr2 hb2 hw2 hk
    go_enter Tryd.func42, Tryd.ntmps42
    go_wp2_with (at_builtin; refine Lib.wpList_append_run _ rfl _ _ _ _ rfl _ _ rfl rfl _ _ HR.out ?_)
    go_ret
    exact HF.out
  · have hk := KB.alloc w (.cells (obox ⟨1, true, num, text, keys⟩ ka kc ia n ic) 44) hB
    obtain ⟨v2, w2, hr2, hb2, hw2⟩ := app_s3 (W := w.alloc (.cells (obox ⟨1, true, num, text, keys⟩ ka kc ia n ic) 44)) ⟨#[116, 114, 117, 101]⟩ (World.ownsRow.alloc h _) (Nat.le_trans hB hk.size) (by show _ + 4 ≤ _; omega)
    have HR := hide hr2
    have HF : Hid (AtR B w (ys ++ boolT true) (.returned v2) w2) := hide ⟨v2, rfl, hb2, hk.trans hw2⟩
    clear h hB hle hr2 hb2 hw2 hk
    go_enter Tryd.func42, Tryd.ntmps42
    go_wp2_with (at_builtin; refine Lib.wpList_append_run _ rfl _ _ _ _ rfl _ _ rfl rfl _ _ HR.out ?_)
    go_ret
    exact HF.out
set_option maxRecDepth 8000 in
set_option maxHeartbeats 1000000 in
theorem rt_atom (p : Pay) (n : Nat) (ka : Option Addr) (kc : Nat) (ia : Option Addr) (ic : Nat) (v : Value) (ys : List UInt8) (B : Nat) (w : World) (hf : flatV p n = true) (h6 : p.kind ≠ 6) (h7 : p.kind ≠ 7) (h : BRow w B v ys) (hB : B ≤ w.heap.size) (hle : ys.length + 1000000 ≤ 140737488355328) :
    Calls Tryd.prog 42 #[v, ov p ka kc ia n ic] w (AtR B w (ys ++ atomT p)) := by
  have hbA : BRow (w.alloc (.cells (obox p ka kc ia n ic) 44)) B v ys := World.ownsRow.alloc h (.cells (obox p ka kc ia n ic) 44)
  have HK := hide (KB.alloc w (.cells (obox p ka kc ia n ic) 44) hB)
  have hBA := Nat.le_trans hB HK.out.size
  have AP := hide (fun (L : List UInt8) (hL : L.length ≤ 900000) x (hx : Below (w.alloc (.cells (obox p ka kc ia n ic) 44)).heap.size (w.alloc (.cells (obox p ka kc ia n ic) 44)) x) => app_s3 (W := x) ⟨L.toArray⟩ (hbA.later hx) (Nat.le_trans hBA hx.size) (by rw [show (⟨L.toArray⟩ : ByteArray).size = L.length by simp [ByteArray.size]]; omega))
  have HKB := hide (fun x (hx : Below (w.alloc (.cells (obox p ka kc ia n ic) 44)).heap.size (w.alloc (.cells (obox p ka kc ia n ic) 44)) x) => HK.out.trans (KB.of_below hBA hx))
  have RFL := hide (Below.refl (w.alloc (.cells (obox p ka kc ia n ic) 44)).heap.size (w.alloc (.cells (obox p ka kc ia n ic) 44)))
  rcases flat_kind hf with hk | hk | hk | hk | hk | hk | hk | hk | hk
  · have e00 : atomT p = [110, 117, 108, 108] := by unfold atomT; rw [hk]; rfl
    rw [e00]
    obtain ⟨v2, w2, hr2, hb2, hw2⟩ := AP.out [110, 117, 108, 108] (by simp) _ RFL.out
    have HR := hide hr2
    have HF : Hid (AtR B w (ys ++ [110, 117, 108, 108]) (.returned v2) w2) := hide ⟨v2, rfl, hb2, (HKB.out _ RFL.out).trans hw2⟩
    have e0 : (p.kind == 0) = true := by rw [hk]; rfl
    clear e00 hk h hB hle hbA hBA hf h6 h7 HK hr2 hb2 hw2 AP HKB RFL
    go_enter Tryd.func42, Tryd.ntmps42
    go_wp2_with (at_builtin; refine Lib.wpList_append_run _ rfl _ _ _ _ rfl _ _ rfl rfl _ _ HR.out ?_)
    go_ret
    exact HF.out
  · rw [show atomT p = boolT p.flag by unfold atomT; rw [hk]; rfl]
    exact rt_bool p n ka kc ia ic v ys B w hk h hB hle
  · have e00 : atomT p = intT p.num := by unfold atomT; rw [hk]; rfl
    rw [e00]
    have hn := flat_int hf hk
    have hlen : (intT p.num).length ≤ 900000 := (by have := intT_len _ hn; omega)
    have C := rInt_any p.num (w.alloc (.cells (obox p ka kc ia n ic) 44)) (by omega) (by omega)
    have C := hide C
    generalize intT p.num = L at C hlen
    have AP2 := hide (AP.out L hlen)
    have e0 : (p.kind == 0) = false := by rw [hk]; rfl
    have e1 : (p.kind == 1) = false := by rw [hk]; rfl
    have e2 : (p.kind == 2) = true := by rw [hk]; rfl
    clear e00 hk h hB hle hbA hBA hf h6 h7 HK hn hlen AP
    go_enter Tryd.func42, Tryd.ntmps42
    go_wp2_with (first
      | (go_at_call 49; refine C.out.mono ?_; rintro e wy ⟨rfl, hy⟩; obtain ⟨v2, w2, hr2, hb2, hw2⟩ := AP2.out wy hy; have HR := hide hr2; have HF : Hid (AtR B w (ys ++ L) (.returned v2) w2) := hide ⟨v2, rfl, hb2, (HKB.out _ hy).trans hw2⟩; clear hr2 hb2 hw2 hy)
      | (at_builtin; refine Lib.wpList_append_run _ rfl _ _ _ _ rfl _ _ rfl rfl _ _ HR.out ?_))
    go_ret
    exact HF.out
  · have e00 : atomT p = D2.textL p.num := by unfold atomT; rw [hk]; rfl
    rw [e00]
    have hn := flat_real hf hk
    have hlen : (D2.textL p.num).length ≤ 900000 := (by have := realT_len _ hn; omega)
    have C := D2.rtext_any p.num (w.alloc (.cells (obox p ka kc ia n ic) 44))
    rw [show D2.textV p.num = .tuple #[.string ⟨(D2.textL p.num).toArray⟩, .bool true] by unfold D2.textV; rw [if_pos (by unfold inB; exact decide_eq_true hn)]] at C
    have C := hide C
    generalize D2.textL p.num = L at C hlen
    have AP2 := hide (AP.out L hlen)
    have e0 : (p.kind == 0) = false := by rw [hk]; rfl
    have e1 : (p.kind == 1) = false := by rw [hk]; rfl
    have e2 : (p.kind == 2) = false := by rw [hk]; rfl
    have e3 : (p.kind == 3) = true := by rw [hk]; rfl
    clear e00 hk h hB hle hbA hBA hf h6 h7 HK hn hlen AP
    go_enter Tryd.func42, Tryd.ntmps42
    go_wp2_with (first
      | (go_at_call 50; refine C.out.mono ?_; rintro e wy ⟨rfl, hy⟩; obtain ⟨v2, w2, hr2, hb2, hw2⟩ := AP2.out wy hy; have HR := hide hr2; have HF : Hid (AtR B w (ys ++ L) (.returned v2) w2) := hide ⟨v2, rfl, hb2, (HKB.out _ hy).trans hw2⟩; clear hr2 hb2 hw2 hy)
      | (at_builtin; refine Lib.wpList_append_run _ rfl _ _ _ _ rfl _ _ rfl rfl _ _ HR.out ?_))
    go_ret
    exact HF.out
  · have e00 : atomT p = nameT p.text.data.toList := by unfold atomT; rw [hk]; rfl
    rw [e00]
    have hn := flat_name hf hk
    have hlen : (nameT p.text.data.toList).length ≤ 900000 := (by have := nameT_len p.text.data.toList; rw [Lib.size_eq] at hn; omega)
    have C := rName_any p.text (w.alloc (.cells (obox p ka kc ia n ic) 44)) (by omega)
    have C := hide C
    generalize nameT p.text.data.toList = L at C hlen
    have AP2 := hide (AP.out L hlen)
    have e0 : (p.kind == 0) = false := by rw [hk]; rfl
    have e1 : (p.kind == 1) = false := by rw [hk]; rfl
    have e2 : (p.kind == 2) = false := by rw [hk]; rfl
    have e3 : (p.kind == 3) = false := by rw [hk]; rfl
    have e4 : (p.kind == 4) = true := by rw [hk]; rfl
    clear e00 hk h hB hle hbA hBA hf h6 h7 HK hn hlen AP
    go_enter Tryd.func42, Tryd.ntmps42
    go_wp2_with (first
      | (go_at_call 51; refine C.out.mono ?_; rintro e wy ⟨rfl, hy⟩; obtain ⟨v2, w2, hr2, hb2, hw2⟩ := AP2.out wy hy; have HR := hide hr2; have HF : Hid (AtR B w (ys ++ L) (.returned v2) w2) := hide ⟨v2, rfl, hb2, (HKB.out _ hy).trans hw2⟩; clear hr2 hb2 hw2 hy)
      | (at_builtin; refine Lib.wpList_append_run _ rfl _ _ _ _ rfl _ _ rfl rfl _ _ HR.out ?_))
    go_ret
    exact HF.out
  · have e00 : atomT p = strT p.text.data.toList := by unfold atomT; rw [hk]; rfl
    rw [e00]
    have hn := flat_str hf hk
    have hlen : (strT p.text.data.toList).length ≤ 900000 := (by have := strT_len p.text.data.toList; rw [Lib.size_eq] at hn; omega)
    have C := rString_any p.text (w.alloc (.cells (obox p ka kc ia n ic) 44)) (by omega)
    have C := hide C
    generalize strT p.text.data.toList = L at C hlen
    have AP2 := hide (AP.out L hlen)
    have e0 : (p.kind == 0) = false := by rw [hk]; rfl
    have e1 : (p.kind == 1) = false := by rw [hk]; rfl
    have e2 : (p.kind == 2) = false := by rw [hk]; rfl
    have e3 : (p.kind == 3) = false := by rw [hk]; rfl
    have e4 : (p.kind == 4) = false := by rw [hk]; rfl
    have e5 : (p.kind == 5) = true := by rw [hk]; rfl
    clear e00 hk h hB hle hbA hBA hf h6 h7 HK hn hlen AP
    go_enter Tryd.func42, Tryd.ntmps42
    go_wp2_with (first
      | (go_at_call 52; refine C.out.mono ?_; rintro e wy ⟨rfl, hy⟩; obtain ⟨v2, w2, hr2, hb2, hw2⟩ := AP2.out wy hy; have HR := hide hr2; have HF : Hid (AtR B w (ys ++ L) (.returned v2) w2) := hide ⟨v2, rfl, hb2, (HKB.out _ hy).trans hw2⟩; clear hr2 hb2 hw2 hy)
      | (at_builtin; refine Lib.wpList_append_run _ rfl _ _ _ _ rfl _ _ rfl rfl _ _ HR.out ?_))
    go_ret
    exact HF.out
  · exact absurd hk h6
  · exact absurd hk h7
  · have e00 : atomT p = intT p.num ++ [32, 48, 32, 82] := by unfold atomT; rw [hk]; rfl
    rw [e00]
    have hn := flat_ref hf hk
    have hlen : (intT p.num).length ≤ 20 := intT_len _ (by omega)
    have C := hide (rInt_any p.num (w.alloc (.cells (obox p ka kc ia n ic) 44)) (by omega) (by omega))
    generalize intT p.num = L at C hlen
    have AP2 := hide (AP.out L (by omega))
    have AP3 := hide (fun x v (hx : BRow x B v (ys ++ L)) (hy : B ≤ x.heap.size) => app_s3 (W := x) ⟨#[32, 48, 32, 82]⟩ hx hy (by show _ + 4 ≤ _; simp only [List.length_append]; omega))
    have HBS := hide hBA
    have e0 : (p.kind == 0) = false := by rw [hk]; rfl
    have e1 : (p.kind == 1) = false := by rw [hk]; rfl
    have e2 : (p.kind == 2) = false := by rw [hk]; rfl
    have e3 : (p.kind == 3) = false := by rw [hk]; rfl
    have e4 : (p.kind == 4) = false := by rw [hk]; rfl
    have e5 : (p.kind == 5) = false := by rw [hk]; rfl
    have e8 : (p.kind == 8) = true := by rw [hk]; rfl
    clear e00 hk h hB hle hbA hBA hf h6 h7 HK hn hlen AP
    go_enter Tryd.func42, Tryd.ntmps42
    go_wp2_with (first
      | (go_at_call 49; refine C.out.mono ?_; rintro e wy ⟨rfl, hy⟩; obtain ⟨v2, w2, hr2, hb2, hw2⟩ := AP2.out wy hy; have HR := hide hr2; obtain ⟨v3, w3, hr3, hb3, hw3⟩ := AP3.out w2 v2 hb2 (Nat.le_trans (Nat.le_trans HBS.out hy.size) hw2.size); have HR3 := hide hr3; have HF : Hid (AtR B w (ys ++ (L ++ [32, 48, 32, 82])) (.returned v3) w3) := hide ⟨v3, rfl, by rw [← List.append_assoc]; exact hb3, ((HKB.out _ hy).trans hw2).trans hw3⟩; clear hr2 hb2 hw2 hy hr3 hb3 hw3)
      | (at_builtin; refine Lib.wpList_append_run _ rfl _ _ _ _ rfl _ _ rfl rfl _ _ HR.out ?_)
      | (at_builtin; refine Lib.wpList_append_run _ rfl _ _ _ _ rfl _ _ rfl rfl _ _ HR3.out ?_))
    go_ret
    exact HF.out
end Go.Proofs.YtpjbkngeiaclgaaDoor
/-
  What the reference's text answers at an array.
-/
namespace Go.Proofs.YtpjbkngeiaclgaaDoor
open Go.RowKit Go.Deep

set_option maxRecDepth 8000 in
set_option maxHeartbeats 1000000 in
theorem rt_arr (W : World) (M : Nat) (ih : RtIH W M) (p : Pay) (T : BT Pay) (ka : Option Addr) (kc : Nat) (ia : Option Addr) (ic : Nat) (v : Value) (ys : List UInt8) (w : World) (h6 : p.kind = 6) (hM : fsize T ≤ M) (hf : fine p T) (hin : OIn W p T ka kc ia ic) (hb : Below W.heap.size W w) (h : BRow w W.heap.size v ys)
    (hl : ys.length + (forT T false [] true).length + 1000002 ≤ 140737488355328) : Calls Tryd.prog 42 #[v, ov p ka kc ia (flen T) ic] w (AtR W.heap.size w (ys ++ 91 :: (forT T false [] true ++ [93]))) := by
  obtain ⟨b, off, hia, hrows⟩ := hin.at_
  have hwA := KB.alloc w (.cells (obox p ka kc ia (flen T) ic) 44) hb.size
  obtain ⟨v1, w1, hr, hb1, hw1⟩ := app_b3 (W := (w.alloc (.cells (obox p ka kc ia (flen T) ic) 44))) [91] (World.ownsRow.alloc h _) (Nat.le_trans hb.size hwA.size) (by simp) (by simp; omega) (w.heap.size + 1) (by simp)
  have IH := hide ih
  have HR := hide hr
  have HB1 := hide hb1
  have HW1 := hide hw1
  have HWA := hide hwA
  have HIA := hide hia
  have HRW := hide hrows
  have HF := hide hf.2
  have HM := hide hM
  have HL := hide hl
  have HB := hide (hb.trans hwA.below)
  have SX := hide (fun x (hx : NB (w.alloc (.cells (obox p ka kc ia (flen T) ic) 44)) x) => six_nb w p ka kc ia (flen T) ic hx)
  have hl3 : (flen T : Int) ≤ 1599289640401 := by have := hin.2.2.1.2; omega
  have hl0 : (0 : Int) ≤ (flen T : Int) := by omega
  have e0 : (p.kind == 0) = false := by rw [h6]; rfl
  have e1 : (p.kind == 1) = false := by rw [h6]; rfl
  have e2 : (p.kind == 2) = false := by rw [h6]; rfl
  have e3 : (p.kind == 3) = false := by rw [h6]; rfl
  have e4 : (p.kind == 4) = false := by rw [h6]; rfl
  have e5 : (p.kind == 5) = false := by rw [h6]; rfl
  have e8 : (p.kind == 8) = false := by rw [h6]; rfl
  have e6 : (p.kind == 6) = true := by rw [h6]; rfl
  clear ih hr hb1 hw1 hia hrows hf hM hl hb h hwA hin h6
  go_enter Tryd.func42, Tryd.ntmps42
  go_wp2_with (at_builtin; refine Lib.wpList_append_run _ rfl _ _ _ _ rfl _ _ rfl rfl _ _ HR.out ?_)
  go_loopw [0, 7] (fun vt vi wr => ∃ (k : Nat) (U : BT Pay) (zs : List UInt8), vi = .int .i64 k ∧ Hid (flen U + k = flen T ∧ fsize U ≤ fsize T ∧ fineF U ∧ Rows W U b (off + k * 6) ∧ BRow wr W.heap.size vt zs ∧ zs ++ forT U false [] (decide (k = 0)) = ys ++ 91 :: forT T false [] true ∧ KB W.heap.size (w.alloc (.cells (obox p ka kc ia (flen T) ic) 44)) wr)) (fun _ vi _ => flen T - (intOf vi).toNat)
  case atStart => exact ⟨0, T, ys ++ [91], rfl, hide ⟨by omega, Nat.le_refl _, HF.out, by simpa using HRW.out, HB1.out, by simp, HW1.out⟩⟩
  case round =>
    clear HB1 HW1 HR HRW HF e0 e1 e2 e3 e4 e5 e6 e8
    obtain ⟨k, U, zs, rfl, HV⟩ := hrel
    obtain ⟨hk, hu, hfu, hrow, hbr, heq, hkb⟩ := HV.out
    clear HV
    have hkk : (0 : Int) ≤ (k : Int) := by omega
    have hbel : Below W.heap.size W wr := HB.out.trans hkb.below
    have hlen := congrArg List.length heq
    have hL := HL.out
    simp only [List.length_append, List.length_cons] at hlen
    have HKB := hide hkb
    obtain ⟨r0, r1, r2, r3, r4, r5⟩ := SX.out wr hkb.nb
    simp only [Nat.zero_add] at r1 r2 r3 r4 r5
    clear r0 r1 r2 r3 r4
    cases U with
    | nil =>
      have hk' : ¬ k < flen T := by simp [flen] at hk; omega
      obtain ⟨v2, w2, hr2, hb2, hw2⟩ := app_b3 (W := wr) [93] hbr hbel.size (by simp) (by simp only [List.length_singleton]; omega) _ rfl
      have HR2 := hide hr2
      have e : ys ++ 91 :: (forT T false [] true ++ [93]) = zs ++ [93] := by
        have := heq
        simp only [forT, List.append_nil] at this
        rw [this]
        simp
      have HFN : Hid (AtR W.heap.size w (ys ++ 91 :: (forT T false [] true ++ [93])) (.returned v2) w2) := hide (by rw [e]; exact ⟨v2, rfl, hb2, (HWA.out.trans hkb).trans hw2⟩)
      clear hk hu hfu hrow hbr heq hkb hbel hlen hL hr2 hb2 hw2 e HKB
      go_wp2_with (at_builtin; refine Lib.wpList_append_run _ rfl _ _ _ _ rfl _ _ rfl rfl _ _ HR2.out ?_)
      go_ret
      exact HFN.out
    | node b0 o0 q TT N =>
      obtain ⟨⟨ka2, kc2, ia2, ic2, g6, gin⟩, grest⟩ := rows_node.1 hrow
      obtain rfl | ⟨rfl, hbz⟩ := HIA.out
      · simp [flen] at hk
      have hlt : k < flen T := by simp [flen] at hk; omega
      have hst' : fsize TT < M := by have := HM.out; simp [fsize] at hu; omega
      rw [forT_node] at heq hlen
      simp only [Bool.false_eq_true, if_false, List.nil_append, List.tail_nil] at heq hlen
      have HK := hide (show flen N + (k + 1) = flen T ∧ fsize N ≤ fsize T by simp [flen, fsize] at hk hu; omega)
      have HRR := hide (show Rows W N b (off + (k + 1) * 6) by rw [show off + (k + 1) * 6 = off + k * 6 + 6 by omega]; exact grest)
      have HFN := hide hfu.2
      by_cases hk0 : k = 0
      · have g0 : ¬ 0 < k := by omega
        have g1 : ¬ (0 : Int) < (k : Int) := by omega
        obtain ⟨c0, c1, c2, c3, c4, c5⟩ := g6.below hbz hbel
        rw [decide_eq_true hk0] at heq hlen
        simp only [if_true, List.nil_append] at heq hlen
        simp only [List.length_append] at hlen
        have CI := hide (IH.out q TT ka2 kc2 ia2 ic2 u0 zs _ hst' hfu.1 gin hbel hbr (by omega))
        have HEQ : Hid (zs ++ objT q TT ++ forT N false [] (decide (k + 1 = 0)) = ys ++ 91 :: forT T false [] true) := hide (by rw [← heq]; simp)
        clear hk hu hfu hrow hbr heq hkb hbel hlen hL g6 gin grest hk0
        go_wp2_with (go_at_call 42; refine CI.out.mono ?_; rintro e wy ⟨v3, rfl, hb3, hk3⟩; have HB3 := hide hb3; have HK3 := hide hk3; clear hb3 hk3)
        go_roundw
        case rel => exact ⟨k + 1, N, zs ++ objT q TT, by go_num, hide ⟨HK.out.1, HK.out.2, HFN.out, HRR.out, HB3.out, HEQ.out, HKB.out.trans HK3.out⟩⟩
        case measure => simp [intOf]; omega
      · have g0 : 0 < k := by omega
        have g1 : (0 : Int) < (k : Int) := by omega
        rw [decide_eq_false hk0] at heq hlen
        simp only [Bool.false_eq_true, if_false] at heq hlen
        simp only [List.length_append, List.length_singleton] at hlen
        obtain ⟨v2, w2, hr2, hb2, hw2⟩ := app_b3 (W := wr) [32] hbr hbel.size (by simp) (by simp only [List.length_singleton]; omega) _ rfl
        have HR2 := hide hr2
        obtain ⟨s0, s1, s2, s3, s4, s5⟩ := SX.out w2 (hkb.trans hw2).nb
        simp only [Nat.zero_add] at s1 s2 s3 s4 s5
        clear s0 s1 s2 s3 s4
        obtain ⟨c0, c1, c2, c3, c4, c5⟩ := g6.below hbz (hbel.trans hw2.below)
        have CI := hide (IH.out q TT ka2 kc2 ia2 ic2 v2 (zs ++ [32]) w2 hst' hfu.1 gin (hbel.trans hw2.below) hb2 (by simp only [List.length_append, List.length_singleton]; omega))
        have HEQ : Hid (zs ++ [32] ++ objT q TT ++ forT N false [] (decide (k + 1 = 0)) = ys ++ 91 :: forT T false [] true) := hide (by rw [← heq]; simp)
        have HW2 := hide (hkb.trans hw2)
        clear hk hu hfu hrow hbr heq hkb hbel hlen hL g6 gin grest hk0 HKB hr2 hb2 hw2
        go_wp2_with (first | (at_builtin; refine Lib.wpList_append_run _ rfl _ _ _ _ rfl _ _ rfl rfl _ _ HR2.out ?_) | (go_at_call 42; refine CI.out.mono ?_; rintro e wy ⟨v3, rfl, hb3, hk3⟩; have HB3 := hide hb3; have HK3 := hide hk3; clear hb3 hk3))
        go_roundw
        case rel => exact ⟨k + 1, N, zs ++ [32] ++ objT q TT, by go_num, hide ⟨HK.out.1, HK.out.2, HFN.out, HRR.out, HB3.out, HEQ.out, HW2.out.trans HK3.out⟩⟩
        case measure => simp [intOf]; omega
end Go.Proofs.YtpjbkngeiaclgaaDoor
/-
  What the reference's text answers at a dictionary; what its Print answers.
-/
namespace Go.Proofs.YtpjbkngeiaclgaaDoor
open Go.RowKit Go.Deep

theorem len_atom (y x C K : Nat) (h : y + x + C ≤ K) : y + C ≤ K := by omega
set_option maxRecDepth 8000 in
set_option maxHeartbeats 2000000 in
theorem rt_dict (W : World) (M : Nat) (ih : RtIH W M) (p : Pay) (T : BT Pay) (ka : Option Addr) (kc : Nat) (ia : Option Addr) (ic : Nat) (v : Value) (ys : List UInt8) (w : World) (h7 : p.kind = 7) (hM : fsize T ≤ M) (hf : fine p T) (hin : OIn W p T ka kc ia ic) (hb : Below W.heap.size W w) (h : BRow w W.heap.size v ys)
    (hl : ys.length + (forT T true p.keys true).length + 1000004 ≤ 140737488355328) : Calls Tryd.prog 42 #[v, ov p ka kc ia (flen T) ic] w (AtR W.heap.size w (ys ++ 60 :: 60 :: (forT T true p.keys true ++ [62, 62]))) := by
  obtain ⟨b, off, hia, hrows⟩ := hin.at_
  have hwA := KB.alloc w (.cells (obox p ka kc ia (flen T) ic) 44) hb.size
  obtain ⟨v1, w1, hr, hb1, hw1⟩ := app_s3 (W := (w.alloc (.cells (obox p ka kc ia (flen T) ic) 44))) ⟨#[60, 60]⟩ (World.ownsRow.alloc h _) (Nat.le_trans hb.size hwA.size) (by show _ + 2 ≤ _; omega)
  have IH := hide ih
  have HR := hide hr
  have HB1 := hide hb1
  have HW1 := hide hw1
  have HWA := hide hwA
  have HIA := hide hia
  have HRW := hide hrows
  have HF := hide hf.2
  have HM := hide hM
  have HL := hide hl
  have HB := hide (hb.trans hwA.below)
  have HKS := hide (flat_dict hf.1 h7)
  have HS := hide hin.2.1.1
  have SX := hide (fun x (hx : NB (w.alloc (.cells (obox p ka kc ia (flen T) ic) 44)) x) => six_nb w p ka kc ia (flen T) ic hx)
  have hl3 : (flen T : Int) ≤ 1599289640401 := by have := hin.2.2.1.2; omega
  have hl0 : (0 : Int) ≤ (flen T : Int) := by omega
  have hl2 : (p.keys.length : Int) ≤ 8796093022208 := by have := hin.2.1.2.1.2; omega
  have e0 : (p.kind == 0) = false := by rw [h7]; rfl
  have e1 : (p.kind == 1) = false := by rw [h7]; rfl
  have e2 : (p.kind == 2) = false := by rw [h7]; rfl
  have e3 : (p.kind == 3) = false := by rw [h7]; rfl
  have e4 : (p.kind == 4) = false := by rw [h7]; rfl
  have e5 : (p.kind == 5) = false := by rw [h7]; rfl
  have e8 : (p.kind == 8) = false := by rw [h7]; rfl
  have e6 : (p.kind == 6) = false := by rw [h7]; rfl
  clear ih hr hb1 hw1 hia hrows hf hM hl hb h hwA hin h7
  go_enter Tryd.func42, Tryd.ntmps42
  go_wp2_with (at_builtin; refine Lib.wpList_append_run _ rfl _ _ _ _ rfl _ _ rfl rfl _ _ HR.out ?_)
  go_loopw [0, 8] (fun vt vi wr => ∃ (k : Nat) (U : BT Pay) (zs : List UInt8), vi = .int .i64 k ∧ Hid (flen U + k = flen T ∧ fsize U ≤ fsize T ∧ fineF U ∧ Rows W U b (off + k * 6) ∧ BRow wr W.heap.size vt zs ∧ zs ++ forT U true (p.keys.drop k) (decide (k = 0)) = ys ++ 60 :: 60 :: forT T true p.keys true ∧ KB W.heap.size (w.alloc (.cells (obox p ka kc ia (flen T) ic) 44)) wr)) (fun _ vi _ => flen T - (intOf vi).toNat)
  case atStart => exact ⟨0, T, ys ++ [60, 60], rfl, hide ⟨by omega, Nat.le_refl _, HF.out, by simpa using HRW.out, HB1.out, by simp, HW1.out⟩⟩
  case round =>
    clear HB1 HW1 HR HRW HF e0 e1 e2 e3 e4 e5 e6 e8
    obtain ⟨k, U, zs, rfl, HV⟩ := hrel
    obtain ⟨hk, hu, hfu, hrow, hbr, heq, hkb⟩ := HV.out
    clear HV
    have hkk : (0 : Int) ≤ (k : Int) := by omega
    have hbel : Below W.heap.size W wr := HB.out.trans hkb.below
    have hlen := congrArg List.length heq
    have hL := HL.out
    simp only [List.length_append, List.length_cons] at hlen
    have HKB := hide hkb
    obtain ⟨r0, r1, r2, r3, r4, r5⟩ := SX.out wr hkb.nb
    simp only [Nat.zero_add] at r1 r2 r3 r4 r5
    clear r0 r1 r2 r3 r4
    cases U with
    | nil =>
      have hk' : ¬ k < flen T := by simp [flen] at hk; omega
      obtain ⟨v2, w2, hr2, hb2, hw2⟩ := app_s3 (W := wr) ⟨#[62, 62]⟩ hbr hbel.size (by show _ + 2 ≤ _; omega)
      have HR2 := hide hr2
      have e : ys ++ 60 :: 60 :: (forT T true p.keys true ++ [62, 62]) = zs ++ [62, 62] := by
        have := heq
        simp only [forT, List.append_nil] at this
        rw [this]
        simp
      have HFN : Hid (AtR W.heap.size w (ys ++ 60 :: 60 :: (forT T true p.keys true ++ [62, 62])) (.returned v2) w2) := hide (by rw [e]; exact ⟨v2, rfl, hb2, (HWA.out.trans hkb).trans hw2⟩)
      clear hk hu hfu hrow hbr heq hkb hbel hlen hL hr2 hb2 hw2 e HKB
      go_wp2_with (at_builtin; refine Lib.wpList_append_run _ rfl _ _ _ _ rfl _ _ rfl rfl _ _ HR2.out ?_)
      go_ret
      exact HFN.out
    | node b0 o0 q TT N =>
      obtain ⟨⟨ka2, kc2, ia2, ic2, g6, gin⟩, grest⟩ := rows_node.1 hrow
      obtain rfl | ⟨rfl, hbz⟩ := HIA.out
      · simp [flen] at hk
      have hlt : k < flen T := by simp [flen] at hk; omega
      have hltk : k < p.keys.length := by rw [HKS.out.1]; exact hlt
      have hst' : fsize TT < M := by have := HM.out; simp [fsize] at hu; omega
      obtain ⟨bk, ok, rfl, hkz, hkey⟩ := HS.out.get hltk
      have hkc := hkey k hltk
      have hsz := HKS.out.2 _ (getD_mem hltk)
      rw [forT_node, headD_drop, List.tail_drop] at heq hlen
      generalize p.keys.getD k ByteArray.empty = key at hkc hsz heq hlen
      simp only [if_true] at heq hlen
      have HK := hide (show flen N + (k + 1) = flen T ∧ fsize N ≤ fsize T by simp [flen, fsize] at hk hu; omega)
      have HRR := hide (show Rows W N b (off + (k + 1) * 6) by rw [show off + (k + 1) * 6 = off + k * 6 + 6 by omega]; exact grest)
      have HFN := hide hfu.2
      have CI := hide (fun v ys w => IH.out q TT ka2 kc2 ia2 ic2 v ys w hst' hfu.1 gin)
      have CN := hide (fun x => rName_any key x (by omega))
      have hnl := nameT_len key.data.toList
      rw [Lib.size_eq] at hsz
      have KS : Hid (∀ x, KB W.heap.size (w.alloc (.cells (obox p (some ⟨bk, ok, none⟩) kc (some ⟨b, off, none⟩) (flen T) ic) 44)) x → x.cell? ⟨w.heap.size, 4, none⟩ = some (.slice (some ⟨bk, ok, none⟩) p.keys.length kc) ∧ x.cell? ⟨w.heap.size, 5, none⟩ = some (.slice (some ⟨b, off, none⟩) (flen T) ic) ∧ x.cell? ⟨bk, ok + k, none⟩ = some (.string key) ∧ x.cell? ⟨b, off + k * 6, none⟩ = some (.int .i64 q.kind) ∧ x.cell? ⟨b, off + k * 6 + 1, none⟩ = some (.bool q.flag) ∧ x.cell? ⟨b, off + k * 6 + 2, none⟩ = some (.int .i64 q.num) ∧ x.cell? ⟨b, off + k * 6 + 3, none⟩ = some (.string q.text) ∧ x.cell? ⟨b, off + k * 6 + 4, none⟩ = some (.slice ka2 q.keys.length kc2) ∧ x.cell? ⟨b, off + k * 6 + 5, none⟩ = some (.slice ia2 (flen TT) ic2)) := hide (fun x hx => by
        obtain ⟨a0, a1, a2, a3, a4, a5⟩ := SX.out x hx.nb
        simp only [Nat.zero_add] at a1 a2 a3 a4 a5
        obtain ⟨c0, c1, c2, c3, c4, c5⟩ := g6.below hbz (HB.out.trans hx.below)
        exact ⟨a4, a5, ((HB.out.trans hx.below).cell (p := ⟨bk, ok + k, none⟩) hkz).trans hkc, c0, c1, c2, c3, c4, c5⟩)
      have HSZ := hide (Nat.le_trans HB.out.size hkb.size)
      by_cases hk0 : k = 0
      · have g0 : ¬ 0 < k := by omega
        have g1 : ¬ (0 : Int) < (k : Int) := by omega
        rw [decide_eq_true hk0] at heq hlen
        simp only [if_true, List.nil_append] at heq hlen
        simp only [List.length_append, List.length_singleton] at hlen
        have HI := hide (RI.drew ⟨hbr, hkb, hbel.size⟩)
        have HX := hide hkb
        have hln : zs.length + (nameT key.data.toList).length + 1 + (objT q TT).length + 1000000 ≤ 140737488355328 := by omega
        have HEQ : Hid (zs ++ nameT key.data.toList ++ [32] ++ objT q TT ++ forT N true (p.keys.drop (k + 1)) (decide (k + 1 = 0)) = ys ++ 60 :: 60 :: forT T true p.keys true) := hide (by rw [← heq]; simp)
        have HL1 : Hid (zs.length + (⟨(nameT key.data.toList).toArray⟩ : ByteArray).size ≤ 140737488355328) := hide (by rw [show (⟨(nameT key.data.toList).toArray⟩ : ByteArray).size = (nameT key.data.toList).length by simp [ByteArray.size]]; omega)
        have HL2 : Hid ((zs ++ nameT key.data.toList).length + 1 ≤ 140737488355328) := hide (by rw [List.length_append]; omega)
        have HL3 : Hid ((zs ++ nameT key.data.toList ++ [32]).length + (objT q TT).length + 1000000 ≤ 140737488355328) := hide (by rw [List.length_append, List.length_append, List.length_singleton]; omega)
        clear hk hu hfu hrow hbr heq hkb hbel hlen hL g6 gin grest hk0 hkey hsz hkc hnl hln HKB
        go_wp2_with fail
        rename_i k0
        have HKK := hide k0
        clear k0
        go_region_held3 (fun x => x.cell? ⟨w.heap.size, 4, none⟩ = some (.slice (some ⟨bk, ok, none⟩) p.keys.length kc) ∧ x.cell? ⟨w.heap.size, 5, none⟩ = some (.slice (some ⟨b, off, none⟩) (flen T) ic) ∧ x.cell? ⟨bk, ok + k, none⟩ = some (.string key) ∧ x.cell? ⟨b, off + k * 6, none⟩ = some (.int .i64 q.kind) ∧ x.cell? ⟨b, off + k * 6 + 1, none⟩ = some (.bool q.flag) ∧ x.cell? ⟨b, off + k * 6 + 2, none⟩ = some (.int .i64 q.num) ∧ x.cell? ⟨b, off + k * 6 + 3, none⟩ = some (.string q.text) ∧ x.cell? ⟨b, off + k * 6 + 4, none⟩ = some (.slice ka2 q.keys.length kc2) ∧ x.cell? ⟨b, off + k * 6 + 5, none⟩ = some (.slice ia2 (flen TT) ic2)) (first | exact KS.out _ HI.out.kb | exact KS.out _ (HI.out.alloc _).kb | exact KS.out _ I1.out.kb | exact KS.out _ (I1.out.alloc _).kb | exact KS.out _ I2.out.kb | exact KS.out _ (I2.out.alloc _).kb | exact KS.out _ I4.out.kb | exact KS.out _ (I4.out.kb.trans HK5.out) | go_keep) ((first
          | (go_at_call 51; refine (CN.out _).mono ?_; rintro e wy ⟨rfl, hy⟩; have HY := hide hy; have I1 := hide (RI.below (by first | exact HI.out | exact HI.out.alloc _) hy); clear hy)
          | (refine step_app_s (by rfl) _ _ (by rfl) (by rfl) _ _ (by rfl) (by rfl) (by first | exact I1.out | exact I1.out.alloc _) HL1.out ?_; intro v3 w3 i3 g3; have I2 := hide i3; have G3 := hide g3; clear i3 g3)
          | (refine step_app_c (by rfl) _ _ (by rfl) (by rfl) _ _ (by rfl) (by rfl) 32 (by first | exact I2.out | exact I2.out.alloc _) (by first | exact Blk.new _ _ _ | exact Blk.far (Blk.new _ _ _) G3.out I1.out.row (Nat.le_refl _) | exact Blk.far ((Blk.new wr.drew _ _).below HY.out) G3.out HI.out.row (Nat.le_refl _)) HL2.out ?_; intro v4 w4 i4; have I4 := hide i4; clear i4)
          | (go_at_call 42; refine (CI.out _ _ _ (HB.out.trans I4.out.kb.below) I4.out.row HL3.out).mono ?_; rintro e wz ⟨v5, rfl, hb5, hk5⟩; have HB5 := hide hb5; have HK5 := hide hk5; clear hb5 hk5)))
        all_goals
          refine HKK.out _ _ ?_
          go_wp2_with fail
          go_roundw
          case rel => exact ⟨k + 1, N, zs ++ nameT key.data.toList ++ [32] ++ objT q TT, by go_num, hide ⟨HK.out.1, HK.out.2, HFN.out, HRR.out, HB5.out, HEQ.out, I4.out.kb.trans HK5.out⟩⟩
          case measure => simp [intOf]; omega
      · have g0 : 0 < k := by omega
        have g1 : (0 : Int) < (k : Int) := by omega
        rw [decide_eq_false hk0] at heq hlen
        simp only [Bool.false_eq_true, if_false] at heq hlen
        simp only [List.length_append, List.length_singleton] at hlen
        obtain ⟨v2, w2, hr2, hb2, hw2⟩ := app_b3 (W := wr) [32] hbr hbel.size (by simp) (by simp only [List.length_singleton]; omega) _ rfl
        have HR2 := hide hr2
        have HI := hide (RI.drew ⟨hb2, hkb.trans hw2, Nat.le_trans hbel.size hw2.size⟩)
        have HX := hide (hkb.trans hw2)
        clear hr2 hb2 hw2
        have hln : (zs ++ [32]).length + (nameT key.data.toList).length + 1 + (objT q TT).length + 1000000 ≤ 140737488355328 := by simp only [List.length_append, List.length_singleton]; omega
        have HEQ : Hid ((zs ++ [32]) ++ nameT key.data.toList ++ [32] ++ objT q TT ++ forT N true (p.keys.drop (k + 1)) (decide (k + 1 = 0)) = ys ++ 60 :: 60 :: forT T true p.keys true) := hide (by rw [← heq]; simp)
        have HL1 : Hid ((zs ++ [32]).length + (⟨(nameT key.data.toList).toArray⟩ : ByteArray).size ≤ 140737488355328) := hide (by rw [show (⟨(nameT key.data.toList).toArray⟩ : ByteArray).size = (nameT key.data.toList).length by simp [ByteArray.size]]; omega)
        have HL2 : Hid (((zs ++ [32]) ++ nameT key.data.toList).length + 1 ≤ 140737488355328) := hide (by rw [List.length_append]; omega)
        have HL3 : Hid (((zs ++ [32]) ++ nameT key.data.toList ++ [32]).length + (objT q TT).length + 1000000 ≤ 140737488355328) := hide (by rw [List.length_append, List.length_append, List.length_singleton]; omega)
        clear hk hu hfu hrow hbr heq hkb hbel hlen hL g6 gin grest hk0 hkey hsz hkc hnl hln HKB
        go_wp2_with (at_builtin; refine Lib.wpList_append_run _ rfl _ _ _ _ rfl _ _ rfl rfl _ _ HR2.out ?_)
        rename_i k0
        have HKK := hide k0
        clear k0
        go_region_held3 (fun x => x.cell? ⟨w.heap.size, 4, none⟩ = some (.slice (some ⟨bk, ok, none⟩) p.keys.length kc) ∧ x.cell? ⟨w.heap.size, 5, none⟩ = some (.slice (some ⟨b, off, none⟩) (flen T) ic) ∧ x.cell? ⟨bk, ok + k, none⟩ = some (.string key) ∧ x.cell? ⟨b, off + k * 6, none⟩ = some (.int .i64 q.kind) ∧ x.cell? ⟨b, off + k * 6 + 1, none⟩ = some (.bool q.flag) ∧ x.cell? ⟨b, off + k * 6 + 2, none⟩ = some (.int .i64 q.num) ∧ x.cell? ⟨b, off + k * 6 + 3, none⟩ = some (.string q.text) ∧ x.cell? ⟨b, off + k * 6 + 4, none⟩ = some (.slice ka2 q.keys.length kc2) ∧ x.cell? ⟨b, off + k * 6 + 5, none⟩ = some (.slice ia2 (flen TT) ic2)) (first | exact KS.out _ HI.out.kb | exact KS.out _ (HI.out.alloc _).kb | exact KS.out _ I1.out.kb | exact KS.out _ (I1.out.alloc _).kb | exact KS.out _ I2.out.kb | exact KS.out _ (I2.out.alloc _).kb | exact KS.out _ I4.out.kb | exact KS.out _ (I4.out.kb.trans HK5.out) | go_keep) ((first
          | (go_at_call 51; refine (CN.out _).mono ?_; rintro e wy ⟨rfl, hy⟩; have HY := hide hy; have I1 := hide (RI.below (by first | exact HI.out | exact HI.out.alloc _) hy); clear hy)
          | (refine step_app_s (by rfl) _ _ (by rfl) (by rfl) _ _ (by rfl) (by rfl) (by first | exact I1.out | exact I1.out.alloc _) HL1.out ?_; intro v3 w3 i3 g3; have I2 := hide i3; have G3 := hide g3; clear i3 g3)
          | (refine step_app_c (by rfl) _ _ (by rfl) (by rfl) _ _ (by rfl) (by rfl) 32 (by first | exact I2.out | exact I2.out.alloc _) (by first | exact Blk.new _ _ _ | exact Blk.far (Blk.new _ _ _) G3.out I1.out.row (Nat.le_refl _) | exact Blk.far ((Blk.new w2.drew _ _).below HY.out) G3.out HI.out.row (Nat.le_refl _)) HL2.out ?_; intro v4 w4 i4; have I4 := hide i4; clear i4)
          | (go_at_call 42; refine (CI.out _ _ _ (HB.out.trans I4.out.kb.below) I4.out.row HL3.out).mono ?_; rintro e wz ⟨v5, rfl, hb5, hk5⟩; have HB5 := hide hb5; have HK5 := hide hk5; clear hb5 hk5)))
        all_goals
          refine HKK.out _ _ ?_
          go_wp2_with fail
          go_roundw
          case rel => exact ⟨k + 1, N, (zs ++ [32]) ++ nameT key.data.toList ++ [32] ++ objT q TT, by go_num, hide ⟨HK.out.1, HK.out.2, HFN.out, HRR.out, HB5.out, HEQ.out, I4.out.kb.trans HK5.out⟩⟩
          case measure => simp [intOf]; omega
end Go.Proofs.YtpjbkngeiaclgaaDoor
/-
  What the reference's text and Print answer.
-/
namespace Go.Proofs.YtpjbkngeiaclgaaDoor
open Go.RowKit Go.Deep

theorem rt_step (W : World) (M : Nat) (ih : RtIH W M) (p : Pay) (T : BT Pay) (ka : Option Addr) (kc : Nat) (ia : Option Addr) (ic : Nat) (v : Value) (ys : List UInt8) (w : World) (hM : fsize T ≤ M) (hf : fine p T) (hin : OIn W p T ka kc ia ic) (hb : Below W.heap.size W w) (h : BRow w W.heap.size v ys)
    (hl : ys.length + (objT p T).length + 1000000 ≤ 140737488355328) : Calls Tryd.prog 42 #[v, ov p ka kc ia (flen T) ic] w (AtR W.heap.size w (ys ++ objT p T)) := by
  by_cases h6 : p.kind = 6
  · have e0 : objT p T = 91 :: (forT T false [] true ++ [93]) := by unfold objT objV; rw [if_pos h6]
    rw [e0] at hl ⊢
    exact rt_arr W M ih p T ka kc ia ic v ys w h6 hM hf hin hb h (len_arr _ _ 1000000 _ hl)
  by_cases h7 : p.kind = 7
  · have e0 : objT p T = 60 :: 60 :: (forT T true p.keys true ++ [62, 62]) := by unfold objT objV; rw [if_neg h6, if_pos h7]
    rw [e0] at hl ⊢
    exact rt_dict W M ih p T ka kc ia ic v ys w h7 hM hf hin hb h (len_dict _ _ 1000000 _ hl)
  · have e0 : objT p T = atomT p := by unfold objT objV; rw [if_neg h6, if_neg h7]
    rw [e0] at hl ⊢
    exact rt_atom p (flen T) ka kc ia ic v ys W.heap.size w hf.1 h6 h7 h hb.size (len_atom _ _ _ _ hl)
theorem rt_core (W : World) : ∀ M, RtIH W M
  | 0 => fun _ _ _ _ _ _ _ _ _ h => absurd h (Nat.not_lt_zero _)
  | M + 1 => fun p T ka kc ia ic v ys w hM hf hin hb h hl => rt_step W M (rt_core W M) p T ka kc ia ic v ys w (by omega) hf hin hb h hl
set_option maxRecDepth 8000 in
set_option maxHeartbeats 1000000 in
theorem rprint_any (p : Pay) (T : BT Pay) (ka : Option Addr) (kc : Nat) (ia : Option Addr) (ic : Nat) (w : World) (hin : OIn w p T ka kc ia ic) :
    Calls Tryd.prog 33 #[ov p ka kc ia (flen T) ic] w fun e w' => e = .returned (prV p T) ∧ Below w.heap.size w w' := by
  have HB := hide ((Below.refl w.heap.size w).alloc (Nat.le_refl _) (.cells (obox p ka kc ia (flen T) ic) 44))
  have CG := hide (show Calls Tryd.prog 41 #[ov p ka kc ia (flen T) ic] (w.alloc (.cells (obox p ka kc ia (flen T) ic) 44)) fun e w' => e = .returned (.bool (decide (0 < goodV p T 0 0))) ∧ Below (w.alloc (.cells (obox p ka kc ia (flen T) ic) 44)).heap.size (w.alloc (.cells (obox p ka kc ia (flen T) ic) 44)) w' from rgood_any p T ka kc ia ic _ (hin.below HB.out))
  have HS := hide (six_box w p ka kc ia (flen T) ic 44)
  have hz : w.heap.size < (w.alloc (.cells (obox p ka kc ia (flen T) ic) 44)).heap.size := by simp
  unfold prV
  cases hg : decide (0 < goodV p T 0 0)
  · rw [hg] at CG
    rw [if_neg (by simp)]
    clear hin hg
    go_enter Tryd.func33, Tryd.ntmps33
    go_wp2_with fail
    refine CG.out.mono ?_
    rintro e w1 ⟨rfl, h1⟩
    have HB1 := hide (below_t5 HB.out h1)
    clear h1
    go_wp2_with fail
    go_ret2
    exact ⟨rfl, HB1.out⟩
  · rw [hg] at CG
    rw [if_pos rfl]
    obtain ⟨R, hR⟩ : ∃ R, (if (objT p T).length ≤ 1048576 then Value.tuple #[.string ⟨(objT p T).toArray⟩, .int .i64 0] else .tuple #[.string ⟨#[]⟩, .int .i64 2]) = R := ⟨_, rfl⟩
    rw [hR]
    have HRR := hide hR
    clear hR
    have hgf := goodV_fine hg
    have hlen := objT_len hgf.1
    have hlen2 : (objT p T).length + 1000000 ≤ 140737488355328 := by have := hgf.2; omega
    have CA := hide (fun x (hx : Below w.heap.size w x) => rt_core x _ p T ka kc ia ic (.slice none 0 0) [] x (Nat.lt_succ_self _) hgf.1 (hin.below hx) (Below.refl _ _) (BRow.nil _ _) (by simpa using hlen2))
    clear hin hg hgf hlen
    have HLL := hide hlen2
    clear hlen2
    go_enter Tryd.func33, Tryd.ntmps33
    go_wp2_with fail
    refine CG.out.mono ?_
    rintro e w1 ⟨rfl, h1⟩
    have HB1 := hide (below_t5 HB.out h1)
    obtain ⟨s0, s1, s2, s3, s4, s5⟩ := HS.out.below hz h1
    simp only [Nat.zero_add] at s1 s2 s3 s4 s5
    clear h1
    go_wp2_with fail
    refine (CA.out _ HB1.out).mono ?_
    rintro e w2 ⟨v', rfl, hb, hw⟩
    simp only [List.nil_append] at hb
    have hcv := BRow.text hb
    have HW := hide (below_t5 HB1.out hw.below)
    have hsz : (⟨(objT p T).toArray⟩ : ByteArray).size = (objT p T).length := by simp [ByteArray.size]
    have hzm : ((⟨(objT p T).toArray⟩ : ByteArray).size : Int) ≤ 140737488355328 := by have := HLL.out; rw [hsz]; omega
    by_cases hlong : (objT p T).length ≤ 1048576
    · have hR := HRR.out
      rw [if_pos hlong] at hR
      subst hR
      have g : decide ((1048576 : Int) < ((⟨(objT p T).toArray⟩ : ByteArray).size : Int)) = false := by rw [hsz]; simp; omega
      clear hb hw s0 s1 s2 s3 s4 s5 hlong HRR HLL CA hsz
      obtain ⟨S, hS⟩ : ∃ S : ByteArray, S = ⟨(objT p T).toArray⟩ := ⟨_, rfl⟩
      rw [← hS] at hcv g hzm
      have HSS := hide hS
      clear hS
      go_wp2_with fail
      go_ret2
      exact ⟨by have := HSS.out; subst this; rfl, HW.out⟩
    · have hR := HRR.out
      rw [if_neg hlong] at hR
      subst hR
      have g : decide ((1048576 : Int) < ((⟨(objT p T).toArray⟩ : ByteArray).size : Int)) = true := by rw [hsz]; simp; omega
      clear hb hw s0 s1 s2 s3 s4 s5 hlong HRR HLL CA hsz
      generalize (⟨(objT p T).toArray⟩ : ByteArray) = S at hcv g hzm ⊢
      go_wp2_with fail
      go_ret2
      exact ⟨rfl, HW.out⟩
end Go.Proofs.YtpjbkngeiaclgaaDoor
