/-
  Joined: P6Rl, P6Sme, P6Wk, P6Opf.
-/
import Derived.Test.YtlnkddmpcicejaaDoorQE
import Derived.Test.YtlnkddmpcicejaaDoorQC
import Derived.Test.YtlnkddmpcicejaaDoorBA
import Derived.WalkKit
import Derived.RegionTactic
import Derived.ChangeAlike
import Derived.Deep.QuietTactic
import Derived.BigQuiet
import Derived.Test.YtlnkddmpcicejaaDoorBF
import Derived.Test.YtlnkddmpcicejaaDoorQG
/-
  What the reference's Lay answers: what the landed lay answers.
-/
namespace Go.Proofs.YtlnkddmpcicejaaDoor
open Go.RowKit Go.Deep
set_option linter.unusedVariables false

theorem XRow.ik {B : Nat} {w w' : World} {v : Value} {ys : List UInt8} (h : XRow w B v ys) (hi : IK B w w') : XRow w' B v ys := by
  rcases h with h | ⟨g, cap, cur, hv, hg, hh, hr⟩
  · exact Or.inl (h.ik hi)
  · have hlt : g < w.heap.size := by
      rcases Nat.lt_or_ge g w.heap.size with h | h
      · exact h
      · rw [Array.getElem?_eq_none h] at hh; simp at hh
    refine Or.inr ⟨g, cap, cur, hv, hg, ?_, hr⟩
    rw [hi.block g hlt (fun c f e => by rw [hh] at e; injection e with e; injection e with _ e _; exact ti_ne.1 e.symm)]
    exact hh
theorem IRow.nb {B : Nat} {w w' : World} {v : Value} {zs : List Int} (h : IRow w B v zs) (hn : NB w w') : IRow w' B v zs := by
  obtain ⟨h1, h2 | ⟨g, cap, cur, hv, hg, hh, hr⟩⟩ := h
  · exact ⟨h1, Or.inl h2⟩
  · have hlt : g < w.heap.size := by
      rcases Nat.lt_or_ge g w.heap.size with h | h
      · exact h
      · rw [Array.getElem?_eq_none h] at hh; simp at hh
    refine ⟨h1, Or.inr ⟨g, cap, cur, hv, hg, ?_, hr⟩⟩
    rw [hn.block g hlt (fun c f e => by rw [hh] at e; injection e with e; injection e with _ e _; exact ti_ne.1 e)]
    exact hh
theorem Blk.nb6 {w w' : World} {b : Nat} {cs : Array Value} {t : TypeId} (h : Blk w b cs t) (hn : NB w w') (ht : t ≠ 5) : Blk w' b cs t := by
  have hl := h.lt
  unfold Blk at *
  rw [hn.block b hl (fun c f e => by rw [h] at e; injection e with e; injection e with _ e _; exact ht e)]
  exact h
theorem IRow.later6 {w w' : World} {B : Nat} {v : Value} {zs : List Int} (h : IRow w B v zs) (hb : Below w.heap.size w w') : IRow w' B v zs := ownsRow_kept h (fun k _ hk => hb.block k hk)
structure RlI (w : World) (l : List EP) (ea : Option Addr) (ec : Nat) (root : Int) (b0 off k : Nat) (U : List EP) (F : List UInt8) (zs : List Int) (vb va : Value) (wr : World) : Prop where
  len : U.length + k = l.length
  rows : ERows w U b0 (off + k * 8)
  sub : ∀ e ∈ U, e ∈ l
  lay : layG k U F zs = layG 0 l hdrT []
  xrow : XRow wr w.heap.size vb F
  irow : IRow wr w.heap.size va zs
  zl : zs.length = k
  small : F.length ≤ 16777216
  below : Below w.heap.size w wr
  blk : Blk wr w.heap.size (fbox l ea ec root) 24
  zb : ∀ z ∈ zs, 0 ≤ z ∧ z ≤ 16777216
end Go.Proofs.YtlnkddmpcicejaaDoor
/-
  What colophonkeep's Same answers of a list and its like: true.
-/
namespace Go.Proofs.YtlnkddmpcicejaaDoor
open Go.RowKit

theorem same_any (a b : Option Addr) (len ca cb : Nat) (zs : List Int) (w : World) (hl : zs.length = len) (h4 : len ≤ 1048576) (hA : Lst w a zs) (hB : Lst w b zs) :
    Calls Tryd.prog 13 #[.slice a len ca, .slice b len cb] w fun e w' => e = .returned (.bool true) ∧ ∃ n, w' = w.drewN n := by
  have HA := hide hA
  have HB := hide hB
  have Hl := hide hl
  have h5 : (len : Int) ≤ 1048576 := by omega
  have t0 : ((len : Int) != (len : Int)) = false := by simp
  clear hA hB hl
  go_enter Tryd.func13, Tryd.ntmps13
  go_wp2_with fail
  go_loopw [5] (fun vi wr => ∃ (k n : Nat), vi = .int .i64 k ∧ wr = w.drewN n ∧ Hid (k ≤ len)) (fun vi _ => len - (intOf vi).toNat)
  case atStart => exact ⟨0, 0, rfl, rfl, hide (by omega)⟩
  case round =>
    obtain ⟨k, n, rfl, rfl, HK⟩ := hrel
    by_cases hlt : k < len
    · have hlt' : (k : Int) < (len : Int) := by omega
      have hl := Hl.out
      rcases HA.out with hz | ⟨b1, o1, rfl, hb1, hcell1⟩
      · rw [hz] at hl; simp at hl; omega
      rcases HB.out with hz | ⟨b2, o2, rfl, hb2, hcell2⟩
      · rw [hz] at hl; simp at hl; omega
      have hc1 := hcell1 k (by omega)
      have hc2 := hcell2 k (by omega)
      generalize zs.getD k 0 = z at *
      clear hcell1 hcell2 hl
      go_wp2_with fail
      go_quiet (fail)
      go_wp2
      go_roundw
      case rel => exact ⟨k + 1, _, by go_num, rfl, hide (by omega)⟩
      case measure => simp [intOf]; omega
    · have hlt' : ¬ (k : Int) < (len : Int) := by omega
      go_wp2
      go_ret
      exact ⟨rfl, n, rfl⟩
end Go.Proofs.YtlnkddmpcicejaaDoor
/-
  The law's one and wakes (chapter 6).
-/
namespace Go.Proofs.YtlnkddmpcicejaaDoor
open Go.RowKit Go.Deep
set_option linter.unusedVariables false

abbrev nulP : Pay := ⟨0, false, 0, ⟨#[]⟩, []⟩
abbrev nulE : EP := ⟨nulP, .nil, false, ⟨#[]⟩⟩
theorem itoa_s (n : Nat) (h : n < 10) : Lib.itoa (n : Int) = [UInt8.ofNat (48 + n)] := by
  rw [Lib.itoa_nonneg, Lib.decDigits, dif_pos h]
theorem nul_obj : objT nulP .nil = [110, 117, 108, 108] := by decide
theorem nul_ent : entT 1 nulE = [49, 32, 48, 32, 111, 98, 106, 10, 110, 117, 108, 108, 10, 101, 110, 100, 111, 98, 106, 10] := by
  unfold entT
  rw [show ((1 : Nat) : Int) = ((1 : Nat) : Int) from rfl, itoa_s 1 (by omega)]
  show _ ++ _ ++ objT nulP .nil ++ _ ++ _ = _
  rw [nul_obj]
  rfl
theorem nul_good : 0 < goodV nulP .nil 0 0 := by
  have hf : flatV nulP (flen (.nil : BT Pay)) = true := by
    show flatV nulP 0 = true
    decide
  unfold goodV gV
  rw [if_neg (by rw [hf]; simp)]
  simp [goodF, cont]
theorem nul_may : mayV nulE = true := by
  unfold mayV
  rw [if_neg (by simp)]
  have h1 : ((⟨#[]⟩ : ByteArray).toList == []) = true := by decide +kernel
  show (((⟨#[]⟩ : ByteArray).toList == []) && decide (0 < goodV nulP .nil 0 0)) = true
  rw [h1, decide_eq_true nul_good]
  rfl
theorem nul_ck : ckV [nulE] 1 = 0 := by
  unfold ckV
  rw [if_neg (by simp), if_pos (by simp [nul_may])]
theorem nul_lay : layV [nulE] 1 = some (hdrT ++ entT 1 nulE ++ tabT [15] ++ trlT 2 1 35, [15, 35]) := by
  have hG : layG 0 [nulE] hdrT [] = some (hdrT ++ entT 1 nulE, [15]) := by
    unfold layG
    rw [if_pos ⟨by show (objT nulP .nil).length ≤ _; rw [nul_obj]; decide, by rw [nul_ent]; decide⟩]
    unfold layG
    rfl
  have hl : (hdrT ++ entT 1 nulE).length = 35 := by rw [nul_ent]; decide
  have h1 : (tabT [15]).length ≤ 1000000 := by
    unfold tabT
    have h1 := rows_len6 [15] (by intro z hz; simp at hz; omega)
    have h2 : (Lib.itoa (([15] : List Int).length + 1 : Int)).length ≤ 21 := Lib.itoa_length_le _ (by simp) (by simp)
    simp only [List.length_append, h1, List.length_cons, List.length_nil] at *
    omega
  have h2 : (trlT 2 1 35).length ≤ 2000 := by
    have h1 := tr_len 2 1 (by omega) (by omega)
    have h2 : (Lib.itoa 35).length ≤ 21 := Lib.itoa_length_le _ (by omega) (by omega)
    unfold trlT
    simp only [List.length_append, List.length_cons, List.length_nil]
    omega
  unfold layV
  rw [hG]
  simp only [hl]
  rw [if_pos]
  · rfl
  · show (hdrT ++ entT 1 nulE ++ tabT [15] ++ trlT 2 1 35).length ≤ _
    simp only [List.length_append] at *
    omega
theorem nul_F : lyF [nulE] 1 = hdrT ++ entT 1 nulE ++ tabT [15] ++ trlT 2 1 35 := by unfold lyF; rw [if_neg (by rw [nul_ck]; simp), nul_lay]
theorem nul_E : lyE [nulE] 1 = 0 := by unfold lyE; rw [if_neg (by rw [nul_ck]; simp), nul_lay]; rfl
theorem nul_Z : lyZ [nulE] 1 = [15, 35] := by unfold lyZ; rw [if_neg (by rw [nul_ck]; simp), nul_lay]
theorem nul_long : 60 < (lyF [nulE] 1).length ∧ (lyF [nulE] 1).length ≤ 2000000 := by
  have h1 : 27 ≤ (tabT [15]).length ∧ (tabT [15]).length ≤ 1000000 := by
    unfold tabT
    have h1 := rows_len6 [15] (by intro z hz; simp at hz; omega)
    have h2 : (Lib.itoa (([15] : List Int).length + 1 : Int)).length ≤ 21 := Lib.itoa_length_le _ (by simp) (by simp)
    simp only [List.length_append, h1, List.length_cons, List.length_nil] at *
    omega
  have h2 : (trlT 2 1 35).length ≤ 2000 := by
    have h1 := tr_len 2 1 (by omega) (by omega)
    have h2 : (Lib.itoa 35).length ≤ 21 := Lib.itoa_length_le _ (by omega) (by omega)
    unfold trlT
    simp only [List.length_append, List.length_cons, List.length_nil]
    omega
  have hl : (hdrT ++ entT 1 nulE).length = 35 := by rw [nul_ent]; decide
  rw [nul_F, List.length_append, List.length_append, hl]
  omega
theorem nul_cut : ((lyF [nulE] 1).drop 15).take 7 = [49, 32, 48, 32, 111, 98, 106] := by
  rw [nul_F, nul_ent]
  rfl
abbrev nulC : Array Value := #[.int .i64 0, .bool false, .int .i64 0, .string ⟨#[]⟩, .slice none 0 0, .slice none 0 0, .bool false, .string ⟨#[]⟩]
theorem nul_lies {W : World} {b : Nat} (h : Blk W b nulC 41) : FIn W [nulE] (some ⟨b, 0, none⟩) 1 :=
  ⟨⟨⟨by simp, by simp⟩, by omega⟩, fun e he => by simp at he; subst he; decide, Or.inr ⟨b, 0, rfl, h.lt, ⟨⟨none, 0, none, 0, ⟨h.cell 0, h.cell 1, h.cell 2, h.cell 3, h.cell 4, h.cell 5⟩, ⟨⟨by simp, by simp, by decide, by simp⟩, ⟨Or.inl rfl, ⟨by simp, by simp⟩, Nat.zero_le _⟩, ⟨by simp [flen], by simp [flen]⟩, Nat.zero_le _, Or.inl rfl⟩⟩, h.cell 6, h.cell 7⟩, trivial⟩⟩
set_option maxRecDepth 8000 in
set_option maxHeartbeats 1000000 in
theorem one_any (w : World) : Calls Tryd.prog 12 #[] w fun e w' => ∃ b, e = .returned (fv [nulE] (some ⟨b, 0, none⟩) 1 1) ∧ Blk w' b nulC 41 ∧ Below w.heap.size w w' := by
  go_enter Tryd.func12, Tryd.ntmps12
  go_wp2_with fail
  have k := Blk.new (w.alloc (.cells #[.slice (some ⟨w.heap.size + 1, 0, none⟩) 1 1, .int .i64 1] 24)) nulC 41
  rw [show (w.alloc (.cells #[.slice (some ⟨w.heap.size + 1, 0, none⟩) 1 1, .int .i64 1] 24)).heap.size = w.heap.size + 1 by simp] at k
  exact bodyPost_ret (v := fv [nulE] (some ⟨w.heap.size + 1, 0, none⟩) 1 1) (by simp [results, Tryd.results12, go_sem]) rfl ⟨_, rfl, k, ((Below.refl _ _).alloc (Nat.le_refl _) _).alloc (by simp) _⟩
theorem nul_ok : ∀ e ∈ [nulE], EOk e := fun e he => by
  obtain rfl : e = nulE := by simpa using he
  exact ⟨by decide, by decide, by decide⟩
set_option maxRecDepth 8000 in
set_option maxHeartbeats 2000000 in
theorem wakes6_any (w : World) (hg : D2.Glo w) : Calls Tryd.prog 5 #[] w fun e w' => e = .returned (.bool true) ∧ Below w.heap.size w w' := by
  have CO := hide one_any
  have HG := hide hg
  obtain ⟨S, hS⟩ : ∃ S : ByteArray, ⟨(lyF [nulE] 1).toArray⟩ = S := ⟨_, rfl⟩
  have hSl : S.data.toList = lyF [nulE] 1 := by rw [← hS]
  have hSs : S.size = (lyF [nulE] 1).length := by rw [Lib.size_eq, hSl]
  have hl := nul_long
  have hcut : S.extract 15 22 = ⟨#[49, 32, 48, 32, 111, 98, 106]⟩ := by
    apply ByteArray.ext
    rw [← Array.toList_inj, ByteArray.data_extract, Array.toList_extract, List.extract_eq_take_drop, hSl]
    exact nul_cut
  have hS1 : (60 : Int) < (S.size : Int) := by omega
  have hS2 : (S.size : Int) ≤ 2000000 := by omega
  have hS3 : (22 : Int) ≤ (S.size : Int) := by omega
  have hS4 : (15 : Int) ≤ (S.size : Int) := by omega
  have CW := hide (fun b w (h : Blk w b nulC 41) hg => by have := write_any [nulE] (some ⟨b, 0, none⟩) 1 1 w (nul_lies h) nul_ok hg; rw [nul_E, hS] at this; exact this)
  have CF := hide (fun b w (h : Blk w b nulC 41) hg => by have := offsets_any [nulE] (some ⟨b, 0, none⟩) 1 1 w (nul_lies h) nul_ok hg; rw [nul_E, nul_Z] at this; exact this)
  clear hg hS hSl hSs hl
  go_enter Tryd.func5, Tryd.ntmps5
  go_wp2_with fail
  refine (CO.out _).mono ?_
  rintro e w1 ⟨b1, rfl, k1, h1⟩
  have CW1 := hide (CW.out b1 w1 k1 (HG.out.below h1))
  have HB1 := hide h1
  clear k1 h1
  go_wp2_with fail
  refine CW1.out.mono ?_
  rintro e w2 ⟨rfl, h2⟩
  have HB2 := hide (below_t5 HB1.out h2)
  clear h2
  go_wp2_with fail
  refine (CO.out _).mono ?_
  rintro e w3 ⟨b3, rfl, k3, h3⟩
  have CF3 := hide (CF.out b3 w3 k3 (HG.out.below (below_t5 HB2.out h3)))
  have HB3 := hide (below_t5 HB2.out h3)
  clear k3 h3
  go_wp2_with fail
  refine CF3.out.mono ?_
  rintro e w4 ⟨⟨v, rfl, hv⟩, h4⟩
  obtain ⟨a, cap, rfl, hL, _, _⟩ := hv.lst
  have HB4 := hide (below_t5 HB3.out h4)
  have hal := (Below.refl w4.heap.size w4).alloc (Nat.le_refl _) (.cells #[.int .i64 15, .int .i64 35] 3)
  have k5 := Blk.new w4 #[.int .i64 15, .int .i64 35] 3
  have CS := hide (same_any a (some ⟨w4.heap.size, 0, none⟩) 2 cap 2 [15, 35] _ rfl (by omega) (hL.below hal) (Or.inr ⟨w4.heap.size, 0, rfl, k5.lt, fun i hi => by
    rw [Nat.zero_add]
    match i, hi with
    | 0, _ => exact k5.cell 0
    | 1, _ => exact k5.cell 1⟩))
  have HB5 := hide (below_t5 HB4.out hal)
  clear hv hL h4 hal k5
  go_wp2_with (go_at_call 13; refine CS.out.mono ?_; rintro e w6 ⟨rfl, n6, hn6⟩; subst hn6)
  go_ret
  exact ⟨rfl, below_drewN HB5.out _⟩
end Go.Proofs.YtlnkddmpcicejaaDoor
/-
  A file that came in: its entries lie one behind the other.
-/
namespace Go.Proofs.YtlnkddmpcicejaaDoor
open Go.ChangeShapes Go.WideShapes Go.RowKit Go.Deep
set_option linter.unusedVariables false

theorem cells_entry : Tryd.prog.cellsOf 41 = 8 := by kernel_rfl
theorem cells_entries : Tryd.prog.cellsOf 22 = 1 := by kernel_rfl
theorem cells_file : Tryd.prog.cellsOf 24 = 2 := by kernel_rfl
theorem bytes_entry : Tryd.prog.bytesOf 41 = 112 := by kernel_rfl
section
variable {H : Type} {enc : TypeId × Value → H} {W : World} {base : Nat} {sp : Nat → Bool} {held : Bool}
set_option maxRecDepth 8000 in
theorem open_objX (n : Nat) (cs : List Value) (x : DataW H × List MemPlace) (h : DataW.trod enc Tryd.prog W base sp held n 39 cs = some x) (hw : ∀ k ∈ x.1.weights Tryd.prog 39, k ≤ reachBytes) :
    ∃ p T ka kc ia ic, cs = sixL p ka kc ia (flen T) ic ∧ OIn W p T ka kc ia ic ∧ p.keys.length ≤ 8796093022207 ∧ flen T ≤ 1599289640400 := by
  obtain ⟨xs, m, hm, rfl, hlen, hxl, hf⟩ := DataW.trod_struct Tryd.underlying39 h
  rw [cells_obj] at hlen
  obtain ⟨a0, a1, a2, a3, a4, a5, rfl⟩ := len6 hlen
  obtain ⟨x0, x1, x2, x3, x4, x5, rfl⟩ := len6 (show xs.length = 6 from hxl)
  have g0 := hf 0 _ rfl
  have g1 := hf 1 _ rfl
  have g2 := hf 2 _ rfl
  have g3 := hf 3 _ rfl
  have g4 := hf 4 _ rfl
  have g5 := hf 5 _ rfl
  simp [cells_int, cells_bool, cells_str, cells_strs, cells_objs] at g0 g1 g2 g3 g4 g5
  obtain ⟨kd, e0, _, w0⟩ := DataW.trod_int Tryd.underlying3 g0
  obtain ⟨fl, e1, _⟩ := DataW.trod_bool Tryd.underlying4 g1
  obtain ⟨nm, e2, _, w2⟩ := DataW.trod_int Tryd.underlying3 g2
  obtain ⟨tx, e3, _, w3⟩ := DataW.trod_string Tryd.underlying9 g3
  have hw : ∀ k ∈ DataW.weights Tryd.prog 36 x4.1 ++ DataW.weights Tryd.prog 37 x5.1, k ≤ reachBytes := fun k hk => hw k (by
    simp only [List.map_cons, List.map_nil, DataW.weights, Tryd.underlying39, DataW.weightsEach, List.mem_append] at hk ⊢
    rcases hk with hk | hk
    · right; right; right; right; left; exact hk
    · right; right; right; right; right; left; exact hk)
  have hk4 : ∃ ka kc keys, a4 = .slice ka (keys : List ByteArray).length kc ∧ Strs W ka keys ∧ (keys.length ≤ kc ∧ keys.length ≤ 8796093022207) ∧ kc ≤ 9223372036854775807 ∧ ∀ s ∈ keys, s.size ≤ 9223372036854775807 := by
    rcases open_strings Tryd.underlying36 Tryd.underlying9 cells_str g4 with ⟨hcs, _⟩ | ⟨a, len, cap, ss, hcs, _, hl, hmx, hsl, hx, hc, hz⟩
    · simp at hcs
      exact ⟨none, 0, [], hcs, Or.inl rfl, by simp, by omega, by simp⟩
    · simp at hcs
      have hle : len ≤ ss.length := by rw [hsl]; split <;> omega
      have hlt : (ss.take len).length = len := by rw [List.length_take]; omega
      have hwt := hw (((strs (ss.take len) : List (DataW H)).length + (strs (ss.drop len) : List (DataW H)).length) * 16) (List.mem_append_left _ (by rw [hx]; simp only [DataW.weights, Tryd.underlying36, bytes_str]; exact List.mem_cons_self))
      refine ⟨some a, cap, ss.take len, by rw [hlt]; exact hcs, strs_at5 hc len hle, ⟨by rw [hlt]; exact hl, ?_⟩, by unfold maxLen at hmx; exact hmx, fun s hs => by have := hz s (List.mem_of_mem_take hs); unfold maxLen at this; exact this⟩
      simp only [strs, List.length_map, List.length_take, reachBytes] at hwt
      rw [hlt]
      omega
  have hk5 : ∃ ia ic T, a5 = .slice ia (flen T) ic ∧ (flen T ≤ ic ∧ flen T ≤ 1599289640400) ∧ ic ≤ 9223372036854775807 ∧ (flen T = 0 ∨ ∃ b' off', ia = some ⟨b', off', none⟩ ∧ b' < W.heap.size ∧ Rows W T b' off') := by
    rcases DataW.trod_slice Tryd.underlying37 g5 with ⟨hcs, _⟩ | ⟨a, len, cap, elems, rest, n', hn', hcs, hx, _, hl, hmx, hel, hei, _, _⟩
    · simp at hcs
      exact ⟨none, 0, .nil, hcs, by simp [flen], by omega, Or.inl rfl⟩
    · simp at hcs
      have hwt := hw ((elems.length + rest.length) * 88) (List.mem_append_right _ (by rw [hx]; simp only [DataW.weights, Tryd.underlying37, bytes_obj, List.length_map]; exact List.mem_cons_self))
      have hwa : ∀ k ∈ DataW.weightsAll Tryd.prog 39 (elems.map (·.1)), k ≤ reachBytes := fun k hk => hw k (List.mem_append_right _ (by rw [hx]; simp only [DataW.weights, Tryd.underlying37]; exact List.mem_cons_of_mem _ (List.mem_append_left _ hk)))
      rcases Nat.eq_zero_or_pos len with h0 | h0
      · subst h0
        exact ⟨some a, cap, .nil, hcs, by simp [flen], by unfold maxLen at hmx; exact hmx, Or.inl rfl⟩
      · obtain ⟨b, off, spot⟩ := a
        have h00 := hei 0 h0
        rw [List.getElem?_eq_getElem (by omega), cells_obj] at h00
        obtain ⟨cs0, hc0, _⟩ := Option.bind_eq_some_iff.1 h00
        obtain ⟨_, hcl, hcell⟩ := World.cells?_some hc0
        obtain ⟨c0, c1, c2, c3, c4, c5, rfl⟩ := len6 hcl
        have hc00 := hcell 0 (by omega)
        simp only [List.getElem?_cons_zero] at hc00
        have hspot : spot = none := by simpa [Addr.add] using World.cell?_spot hc00
        subst hspot
        have hb : b < W.heap.size := by
          have := World.cells?_block hc0 (by omega)
          simpa [Addr.add] using this
        obtain ⟨T, hT, hR⟩ := open_rows n' (open_core n') elems b off (fun i hi => by
            have := hei i (by omega)
            rw [cells_obj, Go.WideShapes.add_plain] at this
            exact this) hwa
        refine ⟨some ⟨b, off, none⟩, cap, T, by rw [hT, hel]; exact hcs, ⟨by rw [hT, hel]; exact hl, ?_⟩, by unfold maxLen at hmx; exact hmx, Or.inr ⟨b, off, rfl, hb, hR⟩⟩
        simp only [reachBytes] at hwt
        rw [hT]
        omega
  obtain ⟨ka, kc, keys, rfl, hS, hk1, hk2, hk3⟩ := hk4
  obtain ⟨ia, ic, T, rfl, hi1, hi2, hi3⟩ := hk5
  simp at e0 e1 e2 e3
  subst e0 e1 e2 e3
  exact ⟨⟨kd, fl, nm, tx, keys⟩, T, ka, kc, ia, ic, rfl, ⟨⟨bounds_i64 w0, bounds_i64 w2, by unfold maxLen at w3; exact w3, hk3⟩, ⟨hS, ⟨hk1.1, Nat.le_trans hk1.2 (by omega)⟩, hk2⟩, ⟨hi1.1, Nat.le_trans hi1.2 (by omega)⟩, hi2, hi3⟩, hk1.2, hi1.2⟩
theorem len3 {α : Type} {l : List α} (h : l.length = 3) : ∃ a b c, l = [a, b, c] := by
  match l, h with
  | [a, b, c], _ => exact ⟨a, b, c, rfl⟩
theorem len2 {α : Type} {l : List α} (h : l.length = 2) : ∃ a b, l = [a, b] := by
  match l, h with
  | [a, b], _ => exact ⟨a, b, rfl⟩
theorem len8 {α : Type} {l : List α} (h : l.length = 8) : ∃ a b c d e f g i, l = [a, b, c, d, e, f, g, i] := by
  match l, h with
  | [a, b, c, d, e, f, g, i], _ => exact ⟨a, b, c, d, e, f, g, i, rfl⟩
set_option maxRecDepth 8000 in
theorem open_entry (n : Nat) (cs : List Value) (x : DataW H × List MemPlace) (h : DataW.trod enc Tryd.prog W base sp held n 41 cs = some x) (hw : ∀ k ∈ x.1.weights Tryd.prog 41, k ≤ reachBytes) :
    ∃ (e : EP) (ka : Option Addr) (kc : Nat) (ia : Option Addr) (ic : Nat), cs = sixL e.p ka kc ia (flen e.T) ic ++ [.bool e.st, .string e.da] ∧ OIn W e.p e.T ka kc ia ic ∧ EOk e := by
  obtain ⟨xs, m, hm, rfl, hlen, hxl, hf⟩ := DataW.trod_struct Tryd.underlying41 h
  rw [cells_entry] at hlen
  obtain ⟨a0, a1, a2, a3, a4, a5, a6, a7, rfl⟩ := len8 hlen
  obtain ⟨x0, x1, x2, rfl⟩ := len3 (show xs.length = 3 from hxl)
  have g0 := hf 0 _ rfl
  have g1 := hf 1 _ rfl
  have g2 := hf 2 _ rfl
  simp [cells_obj, cells_bool, cells_str] at g0 g1 g2
  have hw3 : ∀ k ∈ DataW.weights Tryd.prog 39 x0.1 ++ DataW.weights Tryd.prog 9 x2.1, k ≤ reachBytes := fun k hk => hw k (by
    simp only [List.map_cons, List.map_nil, DataW.weights, Tryd.underlying41, DataW.weightsEach, List.mem_append] at hk ⊢
    rcases hk with hk | hk
    · left; exact hk
    · right; right; left; exact hk)
  obtain ⟨p, T, ka, kc, ia, ic, hcs, hin, hb1, hb2⟩ := open_objX m _ x0 g0 (fun k hk => hw3 k (List.mem_append_left _ hk))
  obtain ⟨st, e1, _⟩ := DataW.trod_bool Tryd.underlying4 g1
  obtain ⟨da, e2, hx2, _⟩ := DataW.trod_string Tryd.underlying9 g2
  have hd := hw3 da.size (List.mem_append_right _ (by rw [hx2]; show da.size ∈ [da.data.toList.length]; rw [← Lib.size_eq]; simp))
  simp at e1 e2
  subst e1 e2
  refine ⟨⟨p, T, st, da⟩, ka, kc, ia, ic, ?_, hin, by unfold reachBytes at hd; exact hd, hb1, hb2⟩
  unfold sixL at hcs ⊢
  simp at hcs ⊢
  exact hcs
theorem open_erows (n : Nat) : ∀ (es : List (DataW H × List MemPlace)) (b off : Nat), (∀ i, i < es.length → (W.cells? base ⟨b, off + i * 8, none⟩ 8).bind (DataW.trod enc Tryd.prog W base sp held n 41) = es[i]?) →
    (∀ k ∈ DataW.weightsAll Tryd.prog 41 (es.map (·.1)), k ≤ reachBytes) → ∃ l : List EP, l.length = es.length ∧ ERows W l b off ∧ ∀ e ∈ l, EOk e
  | [], _, _, _, _ => ⟨[], rfl, trivial, by simp⟩
  | e :: es, b, off, h, hw => by
    have h0 := h 0 (by simp)
    simp only [Nat.zero_mul, Nat.add_zero, List.getElem?_cons_zero] at h0
    obtain ⟨cs, hc, ht⟩ := Option.bind_eq_some_iff.1 h0
    simp only [List.map_cons, DataW.weightsAll] at hw
    obtain ⟨x, ka, kc, ia, ic, rfl, hin, hok⟩ := open_entry n cs e ht (fun k hk => hw k (List.mem_append_left _ hk))
    obtain ⟨l, hl, hR, ho⟩ := open_erows n es b (off + 8) (fun i hi => by
      have := h (i + 1) (by simp; omega)
      rw [show off + (i + 1) * 8 = off + 8 + i * 8 by omega] at this
      simpa using this) (fun k hk => hw k (List.mem_append_right _ hk))
    obtain ⟨_, _, hcell⟩ := World.cells?_some hc
    have g : ∀ j, j < 8 → W.cell? ⟨b, off + j, none⟩ = (sixL x.p ka kc ia (flen x.T) ic ++ [.bool x.st, .string x.da])[j]? := fun j hj => by rw [← Go.WideShapes.add_plain]; exact hcell j hj
    refine ⟨x :: l, by simp [hl], ⟨⟨⟨ka, kc, ia, ic, ⟨g 0 (by omega), g 1 (by omega), g 2 (by omega), g 3 (by omega), g 4 (by omega), g 5 (by omega)⟩, hin⟩, g 6 (by omega), g 7 (by omega)⟩, hR⟩, fun y hy => ?_⟩
    rcases List.mem_cons.1 hy with rfl | hy
    · exact hok
    · exact ho y hy
variable {r : Reach} {b0 : Nat} {v : Value} {d : DataW H} {pl : List MemPlace}
def FileIn (W : World) (l : List EP) (ea : Option Addr) (ec : Nat) (root : Int) : Prop := (FIn W l ea ec ∧ ∀ e ∈ l, EOk e) ∧ (-9223372036854775808 ≤ root ∧ root ≤ 9223372036854775807)
set_option maxRecDepth 8000 in
theorem open_file (hv : Value.okWide Tryd.prog W r b0 24 v) (h : DataW.Trod enc Tryd.prog W base sp held 24 v d pl) (hw : ∀ k ∈ d.weights Tryd.prog 24, k ≤ reachBytes) :
    ∃ l ea ec root, v = fv l ea ec root ∧ FileIn W l ea ec root := by
  simp only [Value.okWide, Tryd.underlying24] at hv
  obtain ⟨cs, rfl, _, _⟩ := hv
  obtain ⟨fuel, hf⟩ := h
  obtain ⟨xs, m, hm, hx, hlen, hxl, hf⟩ := DataW.trod_struct Tryd.underlying24 hf
  rw [cells_file] at hlen
  obtain ⟨a0, a1, hcs⟩ := len2 hlen
  obtain ⟨x0, x1, rfl⟩ := len2 (show xs.length = 2 from hxl)
  rw [hcs] at hf
  have g0 := hf 0 _ rfl
  have g1 := hf 1 _ rfl
  simp [cells_entries, cells_int] at g0 g1
  obtain ⟨hd, _⟩ := Prod.mk.inj hx
  have hw3 : ∀ k ∈ DataW.weights Tryd.prog 22 x0.1, k ≤ reachBytes := fun k hk => hw k (by
    rw [hd]
    simp only [List.map_cons, List.map_nil, DataW.weights, Tryd.underlying24, DataW.weightsEach, List.mem_append]
    left; exact hk)
  obtain ⟨root, e1, _, w1⟩ := DataW.trod_int Tryd.underlying3 g1
  have hk0 : ∃ ea ec l, a0 = .slice ea (l : List EP).length ec ∧ FIn W l ea ec ∧ ∀ e ∈ l, EOk e := by
    rcases DataW.trod_slice Tryd.underlying22 g0 with ⟨hcs, _⟩ | ⟨a, len, cap, elems, rest, n', hn', hcs, hx, _, hl, hmx, hel, hei, _, _⟩
    · simp at hcs
      exact ⟨none, 0, [], hcs, ⟨⟨⟨by simp, by simp⟩, by omega⟩, by simp, Or.inl rfl⟩, by simp⟩
    · simp at hcs
      have hwt := hw3 ((elems.length + rest.length) * 112) (by rw [hx]; simp only [DataW.weights, Tryd.underlying22, bytes_entry, List.length_map]; exact List.mem_cons_self)
      have hwa : ∀ k ∈ DataW.weightsAll Tryd.prog 41 (elems.map (·.1)), k ≤ reachBytes := fun k hk => hw3 k (by rw [hx]; simp only [DataW.weights, Tryd.underlying22]; exact List.mem_cons_of_mem _ (List.mem_append_left _ hk))
      rcases Nat.eq_zero_or_pos len with h0 | h0
      · subst h0
        exact ⟨some a, cap, [], hcs, ⟨⟨⟨by simp, by simp⟩, by unfold maxLen at hmx; exact hmx⟩, by simp, Or.inl rfl⟩, by simp⟩
      · obtain ⟨b, off, spot⟩ := a
        have h00 := hei 0 h0
        rw [List.getElem?_eq_getElem (by omega), cells_entry] at h00
        obtain ⟨cs0, hc0, _⟩ := Option.bind_eq_some_iff.1 h00
        obtain ⟨_, hcl, hcell⟩ := World.cells?_some hc0
        obtain ⟨c0, c1, c2, c3, c4, c5, c6, c7, rfl⟩ := len8 hcl
        have hc00 := hcell 0 (by omega)
        simp only [List.getElem?_cons_zero] at hc00
        have hspot : spot = none := by simpa [Addr.add] using World.cell?_spot hc00
        subst hspot
        have hb : b < W.heap.size := by
          have := World.cells?_block hc0 (by omega)
          simpa [Addr.add] using this
        obtain ⟨l, hT, hR, hO⟩ := open_erows n' elems b off (fun i hi => by
            have := hei i (by omega)
            rw [cells_entry, Go.WideShapes.add_plain] at this
            exact this) hwa
        refine ⟨some ⟨b, off, none⟩, cap, l, by rw [hT, hel]; exact hcs, ⟨⟨⟨by rw [hT, hel]; exact hl, ?_⟩, by unfold maxLen at hmx; exact hmx⟩, fun e he => (hO e he).1, Or.inr ⟨b, off, rfl, hb, hR⟩⟩, hO⟩
        simp only [reachBytes] at hwt
        rw [hT]
        omega
  obtain ⟨ea, ec, l, rfl, hin, hok⟩ := hk0
  simp at e1
  subst e1
  refine ⟨l, ea, ec, root, ?_, ⟨hin, hok⟩, bounds_i64 w1⟩
  have this : cs.toList = [.slice ea l.length ec, .int .i64 root] := hcs
  cases cs
  simp only at this
  subst this
  rfl
end
end Go.Proofs.YtlnkddmpcicejaaDoor
