/-
  What the writer's show, fill, clip, end answer.
-/
import Derived.Test.YthhhepbflggojaaDoorE15X
import Derived.Test.YthhhepbflggojaaDoorE15G
import Derived.Test.YthhhepbflggojaaDoorShelfK
import Derived.Deep.RegionHeld3
namespace Go.Proofs.YthhhepbflggojaaDoor.E15
open Go.RowKit Go.Deep
set_option linter.unusedVariables false
set_option linter.unusedSimpArgs false
set_option maxRecDepth 8000

theorem itoa_sm (f : Nat) (h : f < 100) (w : World) : Calls Tryd.prog 47 #[.int .i64 f] w fun e w' => e = .returned (.string ⟨(Lib.decDigits f).toArray⟩) ∧ w' = w := Any.strconv_Itoa_small lays171 f h w
def fontT (f : Nat) (s : Int) : List UInt8 := [47, 70] ++ Lib.decDigits f ++ [32] ++ numT s ++ [32, 84, 102, 10]
def tmT (x y : Int) : List UInt8 := [49, 32, 48, 32, 48, 32, 49, 32] ++ numT x ++ [32] ++ numT y ++ [32, 84, 109, 10]
def tjT (gs : List Int) : List UInt8 := gsT gs ++ [32, 84, 106, 10]
def showT (m : Mk) : List UInt8 := [66, 84, 10] ++ (fontT m.f.toNat m.s ++ (tmT m.x m.y ++ (tjT m.gs ++ [69, 84, 10])))
/- what the library's table holds, in every world that keeps what lies below B -/
def GB (B : Nat) (w : World) : Prop := ∀ u, Below B w u → D2.Glo u
theorem GB.on {B : Nat} {w w' : World} (h : GB B w) (hb : Below B w w') : GB B w' := fun u hu => h u (hb.trans hu)
theorem GB.at_ {B : Nat} {w u : World} (h : GB B w) (hB : B ≤ w.heap.size) (hu : Below w.heap.size w u) : D2.Glo u := h u (hu.mono hB)
theorem cat15 (a b : ByteArray) (n m : Nat) (ha : a.size = n) (hb : b.size = m) (h : n + m ≤ 100000000) : ∃ P : ByteArray, (∀ w, (Op.stringOp .add a b).run Tryd.prog w = .ok (.string P) w) ∧ P.data.toList = a.data.toList ++ b.data.toList ∧ P.size = n + m :=
  ⟨a ++ b, fun w => run_string_add_sum w a b (by omega), by rw [ByteArray.data_append, Array.toList_append], by rw [ByteArray.size_append, ha, hb]⟩
theorem dec_len99 (f : Nat) (h : f < 100) : (Lib.decDigits f).length ≤ 8 := (D2.dec_len f (by omega)).1
theorem fontT_len (f : Nat) (s : Int) (h : f < 100) : (fontT f s).length ≤ 100 := by
  unfold fontT
  have h0 := numT_len s
  have h1 := dec_len99 f h
  simp only [List.length_append, List.length_cons, List.length_nil]
  omega
theorem tmT_len (x y : Int) : (tmT x y).length ≤ 100 := by
  unfold tmT
  have h0 := numT_len x
  have h1 := numT_len y
  simp only [List.length_append, List.length_cons, List.length_nil]
  omega
theorem tjT_len (gs : List Int) : (tjT gs).length = 4 * gs.length + 6 := by
  unfold tjT gsT
  simp only [List.length_append, List.length_cons, List.length_nil, g4_len]
  omega
abbrev mbx (k f s x y : Int) (a : Option Addr) (n c : Nat) (r0 r1 r2 r3 : Int) : Array Value := #[.int .i64 k, .int .i64 f, .int .i64 s, .int .i64 x, .int .i64 y, .slice a n c, .int .i64 r0, .int .i64 r1, .int .i64 r2, .int .i64 r3]
/- a line of texts that are laid for it, in any world of the writer -/
theorem line_of (B b n : Nat) (xs : List ByteArray) (T : List UInt8) (hn : xs.length = n) (hN : n ≤ 1000) (hT : joinT xs ++ [10] = T) (hl : T.length ≤ 50000000) (F : List UInt8) (u : World) (h : WSt u B b F) (hF : F.length ≤ 950000000) :
    Calls Tryd.prog 46 #[.pointer (some ⟨b, 0, none⟩), .slice (some ⟨u.heap.size, 0, none⟩) n n] (u.alloc (.cells (xs.map Value.string).toArray 9)) fun e w' => e = .returned (.tuple #[]) ∧ WSt w' B b (F ++ T) ∧ PK B b u w' :=
  line_new B b F n xs T u h hn hN hT (by omega)
set_option maxHeartbeats 8000000 in
theorem show_any (B b : Nat) (F : List UInt8) (k s x0 y0 r0 r1 r2 r3 : Int) (f : Nat) (a : Option Addr) (n c : Nat) (gs : List Int) (w : World) (h : WSt w B b F) (hg : GB B w) (hf : f < 100) (hn : gs.length = n) (h1 : n ≤ 1048576) (hz : ∀ z ∈ gs, 0 ≤ z ∧ z ≤ 65535) (hA : ∀ u, Below B w u → Lst u a gs) (hl : F.length ≤ 800000000) :
    Calls Tryd.prog 35 #[.pointer (some ⟨b, 0, none⟩), .agg #[.int .i64 k, .int .i64 f, .int .i64 s, .int .i64 x0, .int .i64 y0, .slice a n c, .int .i64 r0, .int .i64 r1, .int .i64 r2, .int .i64 r3]] w fun e w' => e = .returned (.tuple #[]) ∧ WSt w' B b (F ++ ([66, 84, 10] ++ (fontT f s ++ (tmT x0 y0 ++ (tjT gs ++ [69, 84, 10]))))) ∧ PK B b w w' := by
  obtain ⟨FV, hFV⟩ : ∃ FV : Int → ByteArray, FV = fun x => ⟨(numT x).toArray⟩ := ⟨_, rfl⟩
  have hFd : ∀ x, (FV x).data.toList = numT x := fun x => by rw [hFV]
  obtain ⟨DF, hDF⟩ : ∃ DF : ByteArray, ⟨(Lib.decDigits f).toArray⟩ = DF := ⟨_, rfl⟩
  have hDd : DF.data.toList = Lib.decDigits f := by rw [← hDF]
  obtain ⟨GT, hGT⟩ : ∃ GT : ByteArray, ⟨(gsT gs).toArray⟩ = GT := ⟨_, rfl⟩
  have hGd : GT.data.toList = gsT gs := by rw [← hGT]
  have T1 : joinT [⟨#[66, 84]⟩] ++ [10] = [66, 84, 10] := by simp [joinT, Lib.join, List.intercalate, List.intersperse]
  obtain ⟨PF, hPF, hPd, _⟩ := cat15 ⟨#[47, 70]⟩ DF 2 DF.size rfl rfl (by rw [Lib.size_eq, hDd]; have := dec_len99 f hf; omega)
  rw [hDd] at hPd
  have T2 : joinT [PF, FV s, ⟨#[84, 102]⟩] ++ [10] = fontT f s := by
    unfold joinT fontT Lib.join
    simp [hFd, hPd, List.intercalate, List.intersperse]
  have T3 : joinT [⟨#[49, 32, 48, 32, 48, 32, 49]⟩, FV x0, FV y0, ⟨#[84, 109]⟩] ++ [10] = tmT x0 y0 := by
    unfold joinT tmT Lib.join
    simp [hFd, List.intercalate, List.intersperse]
  have T4 : joinT [GT, ⟨#[84, 106]⟩] ++ [10] = tjT gs := by
    unfold joinT tjT Lib.join
    simp [hGd, List.intercalate, List.intersperse]
  have T5 : joinT [⟨#[69, 84]⟩] ++ [10] = [69, 84, 10] := by simp [joinT, Lib.join, List.intercalate, List.intersperse]
  have l2 := fontT_len f s hf
  have l3 := tmT_len x0 y0
  have l4 := tjT_len gs
  have CN : Hid (∀ (x : Int) (u : World), D2.Glo u → Calls Tryd.prog 48 #[.int .i64 x] u fun e w' => e = .returned (.string (FV x)) ∧ Below u.heap.size u w') := hide (fun x u hu => by rw [hFV]; exact number_any x u hu)
  have CI : Hid (∀ u, Calls Tryd.prog 47 #[.int .i64 f] u fun e w' => e = .returned (.string DF) ∧ w' = u) := hide (fun u => by rw [← hDF]; exact itoa_sm f hf u)
  have CG : Hid (∀ u, PK B b w u → Calls Tryd.prog 49 #[.slice a n c] u fun e w' => e = .returned (.string GT) ∧ Below u.heap.size u w') := hide (fun u hu => by rw [← hGT]; exact glyphs_any a n c gs u hn h1 hz (hA u hu.below))
  have C1 := hide (line_of B b 1 [⟨#[66, 84]⟩] _ rfl (by omega) T1 (by simp))
  have C2 := hide (line_of B b 3 [PF, FV s, ⟨#[84, 102]⟩] _ rfl (by omega) T2 (by omega))
  have C3 := hide (line_of B b 4 [⟨#[49, 32, 48, 32, 48, 32, 49]⟩, FV x0, FV y0, ⟨#[84, 109]⟩] _ rfl (by omega) T3 (by omega))
  have C4 := hide (line_of B b 2 [GT, ⟨#[84, 106]⟩] _ rfl (by omega) T4 (by omega))
  have C5 := hide (line_of B b 1 [⟨#[69, 84]⟩] _ rfl (by omega) T5 (by simp))
  simp only [List.map_cons, List.map_nil] at C1 C4 C5
  have HL2 := hide l2
  have HL3 := hide l3
  have HL4 := hide (show (tjT gs).length ≤ 4200000 by omega)
  generalize fontT f s = U2 at *
  generalize tmT x0 y0 = U3 at *
  generalize tjT gs = U4 at *
  have hb := (Below.refl w.heap.size w).alloc (Nat.le_refl _) (.cells #[.int .i64 k, .int .i64 f, .int .i64 s, .int .i64 x0, .int .i64 y0, .slice a n c, .int .i64 r0, .int .i64 r1, .int .i64 r2, .int .i64 r3] 38)
  have k1 := Blk.new w #[.int .i64 k, .int .i64 f, .int .i64 s, .int .i64 x0, .int .i64 y0, .slice a n c, .int .i64 r0, .int .i64 r1, .int .i64 r2, .int .i64 r3] 38
  have HWS := hide (h.below hb)
  have HG := hide (hg.on (hb.mono h.hB))
  have HPK := hide (PK.of_below (b := b) hb h.hB)
  have HNE : Hid (w.heap.size ≠ b) := hide (by have := h.lt; omega)
  have HFL := hide hl
  clear h hg hl hFV hFd hDF hDd hPd hGT hGd T1 T2 T3 T4 T5 l2 l3 l4 hf hn h1 hz hA
  go_enter Tryd.func35, Tryd.ntmps35
  go_upto_region 1 with (fail)
  obtain ⟨R, hR⟩ : ∃ R, w.heap.size = R := ⟨_, rfl⟩
  rw [hR] at k1
  have HK := hide k1
  generalize w.alloc (.cells #[.int .i64 k, .int .i64 f, .int .i64 s, .int .i64 x0, .int .i64 y0, .slice a n c, .int .i64 r0, .int .i64 r1, .int .i64 r2, .int .i64 r3] 38) = V at HK HWS HG HPK ⊢
  simp only [hR]
  have HNR : Hid (R ≠ b) := hide (by rw [← hR]; exact HNE.out)
  clear hb k1 hR HNE
  go_wp2_with fail
  refine (C1.out F _ HWS.out (by have := HFL.out; omega)).mono ?_
  rintro e w1 ⟨rfl, hws, hpk⟩
  have HWS0 := HWS
  have HK0 := HK
  have HG0 := HG
  have HPK0 := HPK
  replace HWS := hide hws
  replace HK := hide (hpk.blk HK0.out HNR.out tm_ne)
  replace HG := hide (HG0.out.on hpk.below)
  replace HPK := hide (HPK0.out.trans hpk)
  clear HWS0 HK0 HG0 HPK0 hws hpk C1
  go_wp2_with fail
  have HX := hide (Below.refl w1.heap.size w1)
  have KS : Hid (∀ x, Blk x R #[.int .i64 k, .int .i64 f, .int .i64 s, .int .i64 x0, .int .i64 y0, .slice a n c, .int .i64 r0, .int .i64 r1, .int .i64 r2, .int .i64 r3] 38 → R < x.heap.size ∧ x.cell? ⟨R, 1, none⟩ = some (.int .i64 f) ∧ x.cell? ⟨R, 2, none⟩ = some (.int .i64 s)) := hide fun x hx => ⟨hx.lt, by simpa using hx.cell 1, by simpa using hx.cell 2⟩
  have CNW : Hid (∀ (x : Int) (u : World), Below w1.heap.size w1 u → Calls Tryd.prog 48 #[.int .i64 x] u fun e w' => e = .returned (.string (FV x)) ∧ Below u.heap.size u w') := hide fun x u hu => CN.out x u (HG.out.at_ HWS.out.hB hu)
  have CLW := hide (fun (u : World) (hu : Below w1.heap.size w1 u) => C2.out (F ++ [66, 84, 10]) u (HWS.out.below hu) (by simp only [List.length_append, List.length_cons, List.length_nil]; have := HFL.out; have := HL2.out; have := HL3.out; have := HL4.out; omega))
  simp only [List.map_cons, List.map_nil] at CLW
  go_region_held3 (fun x => R < x.heap.size ∧ x.cell? ⟨R, 1, none⟩ = some (.int .i64 f) ∧ x.cell? ⟨R, 2, none⟩ = some (.int .i64 s)) ((refine KS.out _ ?_; repeat (first | exact HK.out | refine blk_d ?_ | refine blk_a ?_ _))) ((first | (go_at_call 47; refine (CI.out _).mono ?_; rintro e wz ⟨rfl, rfl⟩) | (go_at_call 48; refine (CNW.out _ _ (by repeat (first | exact HX.out | refine bdr ?_ | refine ba2 ?_ _))).mono ?_; rintro e wz ⟨rfl, hz⟩; have HX0 := HX; have HK0 := HK; replace HX := hide (show Below w1.heap.size w1 wz from below_t5 (by repeat (first | exact HX0.out | refine bdr ?_ | refine ba2 ?_ _)) hz); replace HK := hide (show Blk wz R #[.int .i64 k, .int .i64 f, .int .i64 s, .int .i64 x0, .int .i64 y0, .slice a n c, .int .i64 r0, .int .i64 r1, .int .i64 r2, .int .i64 r3] 38 from Blk.below (by repeat (first | exact HK0.out | refine blk_d ?_ | refine blk_a ?_ _)) hz); clear HX0 HK0 hz) | (go_at_call 46; refine (CLW.out _ (by repeat (first | exact HX.out | refine bdr ?_ | refine ba2 ?_ _))).mono ?_; rintro e wz ⟨rfl, hws, hpk⟩; have HK0 := HK; have HWS0 := HWS; have HPK0 := HPK; have HG0 := HG; replace HK := hide (show Blk wz R #[.int .i64 k, .int .i64 f, .int .i64 s, .int .i64 x0, .int .i64 y0, .slice a n c, .int .i64 r0, .int .i64 r1, .int .i64 r2, .int .i64 r3] 38 from hpk.blk (by repeat (first | exact HK0.out | refine blk_d ?_ | refine blk_a ?_ _)) HNR.out tm_ne); replace HWS := hide hws; have hpz := PK.trans (PK.of_below (b := b) (by repeat (first | exact HX.out | refine bdr ?_ | refine ba2 ?_ _)) HWS0.out.hB) hpk; replace HPK := hide (HPK0.out.trans hpz); replace HG := hide (HG0.out.on hpz.below); clear HK0 HWS0 HPK0 HG0 hws hpk hpz HX)))
  clear CNW CLW KS
  go_wp2_with fail
  rename World => w2
  have HX := hide (Below.refl w2.heap.size w2)
  have KS : Hid (∀ x, Blk x R #[.int .i64 k, .int .i64 f, .int .i64 s, .int .i64 x0, .int .i64 y0, .slice a n c, .int .i64 r0, .int .i64 r1, .int .i64 r2, .int .i64 r3] 38 → R < x.heap.size ∧ x.cell? ⟨R, 3, none⟩ = some (.int .i64 x0) ∧ x.cell? ⟨R, 4, none⟩ = some (.int .i64 y0)) := hide fun x hx => ⟨hx.lt, by simpa using hx.cell 3, by simpa using hx.cell 4⟩
  have CNW : Hid (∀ (x : Int) (u : World), Below w2.heap.size w2 u → Calls Tryd.prog 48 #[.int .i64 x] u fun e w' => e = .returned (.string (FV x)) ∧ Below u.heap.size u w') := hide fun x u hu => CN.out x u (HG.out.at_ HWS.out.hB hu)
  have CLW := hide (fun (u : World) (hu : Below w2.heap.size w2 u) => C3.out (F ++ [66, 84, 10] ++ U2) u (HWS.out.below hu) (by simp only [List.length_append, List.length_cons, List.length_nil]; have := HFL.out; have := HL2.out; have := HL3.out; have := HL4.out; omega))
  simp only [List.map_cons, List.map_nil] at CLW
  go_region_held3 (fun x => R < x.heap.size ∧ x.cell? ⟨R, 3, none⟩ = some (.int .i64 x0) ∧ x.cell? ⟨R, 4, none⟩ = some (.int .i64 y0)) ((refine KS.out _ ?_; repeat (first | exact HK.out | refine blk_d ?_ | refine blk_a ?_ _))) ((first | (go_at_call 48; refine (CNW.out _ _ (by repeat (first | exact HX.out | refine bdr ?_ | refine ba2 ?_ _))).mono ?_; rintro e wz ⟨rfl, hz⟩; have HX0 := HX; have HK0 := HK; replace HX := hide (show Below w2.heap.size w2 wz from below_t5 (by repeat (first | exact HX0.out | refine bdr ?_ | refine ba2 ?_ _)) hz); replace HK := hide (show Blk wz R #[.int .i64 k, .int .i64 f, .int .i64 s, .int .i64 x0, .int .i64 y0, .slice a n c, .int .i64 r0, .int .i64 r1, .int .i64 r2, .int .i64 r3] 38 from Blk.below (by repeat (first | exact HK0.out | refine blk_d ?_ | refine blk_a ?_ _)) hz); clear HX0 HK0 hz) | (go_at_call 46; refine (CLW.out _ (by repeat (first | exact HX.out | refine bdr ?_ | refine ba2 ?_ _))).mono ?_; rintro e wz ⟨rfl, hws, hpk⟩; have HK0 := HK; have HWS0 := HWS; have HPK0 := HPK; have HG0 := HG; replace HK := hide (show Blk wz R #[.int .i64 k, .int .i64 f, .int .i64 s, .int .i64 x0, .int .i64 y0, .slice a n c, .int .i64 r0, .int .i64 r1, .int .i64 r2, .int .i64 r3] 38 from hpk.blk (by repeat (first | exact HK0.out | refine blk_d ?_ | refine blk_a ?_ _)) HNR.out tm_ne); replace HWS := hide hws; have hpz := PK.trans (PK.of_below (b := b) (by repeat (first | exact HX.out | refine bdr ?_ | refine ba2 ?_ _)) HWS0.out.hB) hpk; replace HPK := hide (HPK0.out.trans hpz); replace HG := hide (HG0.out.on hpz.below); clear HK0 HWS0 HPK0 HG0 hws hpk hpz HX)))
  clear CNW CLW KS
  rename World => w3
  have q5 := HK.out.cell 5
  have qlt := HK.out.lt
  simp only [List.getElem?_toArray, List.getElem?_cons_succ, List.getElem?_cons_zero] at q5
  go_wp2_with fail
  refine (CG.out _ HPK.out).mono ?_
  rintro e w4 ⟨rfl, h4⟩
  have HWS0 := HWS
  have HK0 := HK
  have HG0 := HG
  have HPK0 := HPK
  replace HWS := hide (HWS0.out.below h4)
  replace HK := hide (HK0.out.below h4)
  replace HG := hide (HG0.out.on (h4.mono HWS0.out.hB))
  replace HPK := hide (HPK0.out.trans (PK.of_below h4 HWS0.out.hB))
  clear HWS0 HK0 HG0 HPK0 h4 q5 qlt
  go_wp2_with fail
  refine (C4.out _ _ HWS.out (by simp only [List.length_append, List.length_cons, List.length_nil]; have := HFL.out; have := HL2.out; have := HL3.out; have := HL4.out; omega)).mono ?_
  rintro e w5 ⟨rfl, hws, hpk⟩
  have HWS0 := HWS
  have HK0 := HK
  have HG0 := HG
  have HPK0 := HPK
  replace HWS := hide hws
  replace HK := hide (hpk.blk HK0.out HNR.out tm_ne)
  replace HG := hide (HG0.out.on hpk.below)
  replace HPK := hide (HPK0.out.trans hpk)
  clear HWS0 HK0 HG0 HPK0 hws hpk
  go_wp2_with fail
  refine (C5.out _ _ HWS.out (by simp only [List.length_append, List.length_cons, List.length_nil]; have := HFL.out; have := HL2.out; have := HL3.out; have := HL4.out; omega)).mono ?_
  rintro e w6 ⟨rfl, hws, hpk⟩
  have HWS0 := HWS
  have HK0 := HK
  have HG0 := HG
  have HPK0 := HPK
  replace HWS := hide hws
  replace HK := hide (hpk.blk HK0.out HNR.out tm_ne)
  replace HG := hide (HG0.out.on hpk.below)
  replace HPK := hide (HPK0.out.trans hpk)
  clear HWS0 HK0 HG0 HPK0 hws hpk
  go_wp2_with fail
  go_end0
  refine ⟨rfl, ?_, HPK.out⟩
  have := HWS.out
  simp only [List.append_assoc] at this ⊢
  exact this
end Go.Proofs.YthhhepbflggojaaDoor.E15
