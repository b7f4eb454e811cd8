/-
  What the reference's Two, Hex, box answer.
-/
import Derived.Test.YthhhepbflggojaaDoorE15F
import Derived.Test.YthhhepbflggojaaDoorE2Dec
namespace Go.Proofs.YthhhepbflggojaaDoor.E15
open Go.RowKit Go.Deep
set_option linter.unusedVariables false
set_option linter.unusedSimpArgs false
set_option maxRecDepth 8000

def hiB (x : Int) : UInt8 := UInt8.ofNat (x / 256 % 256).toNat
def loB (x : Int) : UInt8 := UInt8.ofNat (x % 256).toNat
theorem hiB_cell (x : Int) : bcell (hiB x) = .int .u8 (x / 256 % 256) := by
  unfold bcell hiB
  have h0 : 0 ≤ x / 256 % 256 := Int.emod_nonneg _ (by omega)
  have h1 : x / 256 % 256 < 256 := Int.emod_lt_of_pos _ (by omega)
  rw [UInt8.toNat_ofNat']
  congr 1
  omega
theorem loB_cell (x : Int) : bcell (loB x) = .int .u8 (x % 256) := by
  unfold bcell loB
  have h0 : 0 ≤ x % 256 := Int.emod_nonneg _ (by omega)
  have h1 : x % 256 < 256 := Int.emod_lt_of_pos _ (by omega)
  rw [UInt8.toNat_ofNat']
  congr 1
  omega
theorem rtwo_any (x : Int) (w : World) (h0 : -4611686018427387904 ≤ x) (h1 : x ≤ 4611686018427387904) : Calls Tryd.prog 27 #[.int .i64 x] w fun e w' => e = .returned (.string ⟨[hiB x, loB x].toArray⟩) ∧ Below w.heap.size w w' := by
  have CV : (convert 43 9 (.slice (some ⟨w.heap.size, 0, none⟩) 2 2)).run Tryd.prog (w.alloc (.cells #[.int .u8 (x / 256 % 256), .int .u8 (x % 256)] 5)) = .ok (.string ⟨[hiB x, loB x].toArray⟩) (w.alloc (.cells #[.int .u8 (x / 256 % 256), .int .u8 (x % 256)] 5)) := by
    refine run_convert_bytes_back (P := Tryd.prog) _ 43 9 5 ⟨w.heap.size, 0, none⟩ 2 [hiB x, loB x] Tryd.underlying43 Tryd.underlying5 Tryd.underlying9 ?_
    intro j hj
    rw [Go.WideShapes.add_plain, Nat.zero_add, World.cell?_alloc_at _ _ _ _ rfl]
    have e1 := hiB_cell x
    have e2 := loB_cell x
    unfold bcell at e1 e2
    match j, hj with
    | 0, _ => exact congrArg some e1.symm
    | 1, _ => exact congrArg some e2.symm
  have HB := hide ((Below.refl w.heap.size w).alloc (Nat.le_refl _) (.cells #[.int .u8 (x / 256 % 256), .int .u8 (x % 256)] 5))
  generalize (⟨[hiB x, loB x].toArray⟩ : ByteArray) = T at CV ⊢
  go_enter Tryd.func27, Tryd.ntmps27
  go_wp2_with fail
  go_ret
  exact ⟨rfl, HB.out⟩
def h2 (c : UInt8) : List UInt8 := [hx (c.toNat / 16), hx (c.toNat % 16)]
def hexT (l : List UInt8) : List UInt8 := l.flatMap h2
theorem hexT_len (l : List UInt8) : (hexT l).length = 2 * l.length := by
  unfold hexT
  induction l with
  | nil => rfl
  | cons x r ih => rw [List.flatMap_cons, List.length_append, ih]; simp [h2]; omega
theorem hexT_two (g : Int) (h0 : 0 ≤ g) (h1 : g ≤ 65535) : hexT [hiB g, loB g] = g4 g := by
  unfold hexT g4 h2 hiB loB
  simp only [List.flatMap_cons, List.flatMap_nil, List.append_nil, List.cons_append, List.nil_append]
  rw [UInt8.toNat_ofNat', UInt8.toNat_ofNat']
  have e0 : (g / 256 % 256).toNat % 2 ^ 8 / 16 = g.toNat / 4096 % 16 := by omega
  have e1 : (g / 256 % 256).toNat % 2 ^ 8 % 16 = g.toNat / 256 % 16 := by omega
  have e2 : (g % 256).toNat % 2 ^ 8 / 16 = g.toNat / 16 % 16 := by omega
  have e3 : (g % 256).toNat % 2 ^ 8 % 16 = g.toNat % 16 := by omega
  rw [e0, e1, e2, e3]
set_option maxHeartbeats 4000000 in
theorem rhex_any (s : ByteArray) (w : World) (h1 : s.size ≤ 1000000) :
    Calls Tryd.prog 26 #[.string s] w fun e w' => e = .returned (.string ⟨(hexT s.data.toList).toArray⟩) ∧ Below w.heap.size w w' := by
  have h5 : (s.size : Int) ≤ 1000000 := by omega
  go_enter Tryd.func26, Tryd.ntmps26
  go_wp2_with fail
  go_loopw [3, 4] (fun vo vi wr => ∃ (k : Nat), vi = .int .i64 k ∧ Hid (k ≤ s.size ∧ Below w.heap.size w wr ∧ BRow wr w.heap.size vo (hexT (s.data.toList.take k)))) (fun _ vi _ => s.size - (intOf vi).toNat)
  case atStart => exact ⟨0, rfl, hide ⟨by omega, Below.refl _ _, World.ownsRow_nil _ _ _ _⟩⟩
  case round =>
    obtain ⟨k, rfl, HK⟩ := hrel
    obtain ⟨hk, hb, hrow⟩ := HK.out
    have hk0 : (0 : Int) ≤ (k : Int) := by omega
    clear HK
    by_cases hlt : k < s.size
    case neg =>
      have hlt' : ¬ (k : Int) < (s.size : Int) := by omega
      rw [List.take_of_length_le (by rw [← Lib.size_eq]; omega)] at hrow
      have hcv := hrow.text
      have HB := hide hb
      obtain ⟨T, hT⟩ : ∃ T : ByteArray, ⟨(hexT s.data.toList).toArray⟩ = T := ⟨_, rfl⟩
      rw [hT] at hcv
      have HE := hide hT.symm
      clear hrow hb hk hT
      go_wp2_with fail
      go_ret
      exact ⟨by rw [HE.out]; rfl, HB.out⟩
    have hlt' : (k : Int) < (s.size : Int) := by omega
    have hkl : k < s.data.toList.length := by rw [← Lib.size_eq]; exact hlt
    have htk : hexT (s.data.toList.take (k + 1)) = hexT (s.data.toList.take k) ++ h2 s[k] := by
      unfold hexT
      rw [List.take_add_one, List.getElem?_eq_getElem hkl, List.flatMap_append]
      simp
      rfl
    obtain ⟨a, ha⟩ : ∃ a, s[k].toNat / 16 = a := ⟨_, rfl⟩
    obtain ⟨b, hbq⟩ : ∃ b, s[k].toNat % 16 = b := ⟨_, rfl⟩
    have b1 : a < hexS.size := by have := UInt8.toNat_lt s[k]; show _ < 16; omega
    have b2 : b < hexS.size := by show _ < 16; omega
    have e : h2 s[k] = [hexS[a]'b1, hexS[b]'b2] := by
      unfold h2
      rw [ha, hbq, ← hexS_at ⟨a, b1⟩, ← hexS_at ⟨b, b2⟩]
    obtain ⟨v2, w2, hr2, hrow2, hkb2⟩ := app_b3 (W := wr.drew) [hexS[a]'b1, hexS[b]'b2] (show BRow wr.drew w.heap.size _ _ from hrow) hb.size (by simp) (by rw [hexT_len, List.length_take]; simp; omega) wr.heap.size rfl
    have HR2 := hide hr2
    have HFIN := hide (show k + 1 ≤ s.size ∧ Below w.heap.size w w2 ∧ BRow w2 w.heap.size v2 (hexT (s.data.toList.take (k + 1))) from ⟨by omega, (bdr hb).trans hkb2.below, by rw [htk, e]; exact hrow2⟩)
    obtain ⟨c, hc⟩ : ∃ c : Int, (s[k].toNat : Int) = c := ⟨_, rfl⟩
    have g5 : (0 : Int) ≤ c := by omega
    have g6 : c ≤ 255 := by have := UInt8.toNat_lt s[k]; omega
    have q1 : IntKind.u8.wrap (c.tdiv 16) = (a : Int) := by rw [IntWalk.u8_quo _ _ ⟨g5, g6, by omega⟩]; omega
    have q2 : c.tmod 16 = (b : Int) := by rw [Int.tmod_eq_emod_of_nonneg g5]; omega
    have q3 : c % 16 = (b : Int) := by omega
    have g1 : (0 : Int) ≤ (a : Int) := by omega
    have g2 : (a : Int) < 16 := by have : a < 16 := b1; omega
    have g3 : (0 : Int) ≤ (b : Int) := by omega
    have g4' : (b : Int) < 16 := by have : b < 16 := b2; omega
    clear hk hb hrow htk e hr2 hrow2 hkb2 ha hbq
    go_wp2_with fail
    go_region_held3 (fun _ => True) (first | trivial | go_keep) ((first | (refine step_append_run _ (by rfl) _ _ _ _ (by rfl) _ _ (by rfl) (by rfl) _ _ HR2.out ?_)))
    all_goals
      go_wp2_with fail
      go_roundw
      case rel => exact ⟨k + 1, by go_num, HFIN⟩
      case measure => simp [intOf]; omega
set_option maxHeartbeats 4000000 in
theorem rbox_any (r0 r1 r2 r3 : Int) (w : World) (hg : D2.Glo w) (hm : R3.mayB r0 r1 r2 r3 = true) :
    Calls Tryd.prog 28 #[.agg #[.int .i64 r0, .int .i64 r1, .int .i64 r2, .int .i64 r3]] w fun e w' => e = .returned (.string ⟨(bxT r0 r1 r2 r3).toArray⟩) ∧ Below w.heap.size w w' := by
  obtain ⟨⟨l0, u0⟩, ⟨l1, u1⟩, ⟨l2, u2⟩, ⟨l3, u3⟩, _, _⟩ := R3.mayB_bd hm
  have e20 : IntKind.i64.wrap (r2 - r0) = r2 - r0 := by rw [IntKind.wrap_i64]; omega
  have e31 : IntKind.i64.wrap (r3 - r1) = r3 - r1 := by rw [IntKind.wrap_i64]; omega
  clear l0 u0 l1 u1 l2 u2 l3 u3 hm
  have hb := (Below.refl w.heap.size w).alloc (Nat.le_refl _) (.cells #[.int .i64 r0, .int .i64 r1, .int .i64 r2, .int .i64 r3] 36)
  have k1 := Blk.new w #[.int .i64 r0, .int .i64 r1, .int .i64 r2, .int .i64 r3] 36
  obtain ⟨FV, hFV⟩ : ∃ FV : Int → ByteArray, FV = fun x => ⟨(numT x).toArray⟩ := ⟨_, rfl⟩
  have hFd : ∀ x, (FV x).data.toList = numT x := fun x => by rw [hFV]
  have hFs : ∀ x, (FV x).size ≤ 40 := fun x => by rw [Lib.size_eq, hFd]; exact numT_len x
  have f0 := hFs r0
  have f1 := hFs r1
  have f2 := hFs (r2 - r0)
  have f3 := hFs (r3 - r1)
  have hk1 : (⟨#[32]⟩ : ByteArray).size = 1 := rfl
  have hk4 : (⟨#[32, 114, 101, 10]⟩ : ByteArray).size = 4 := rfl
  obtain ⟨P1, c1, d1, s1⟩ := cat15 (FV r0) ⟨#[32]⟩ _ 1 rfl rfl (by omega)
  obtain ⟨P2, c2, d2, s2⟩ := cat15 P1 (FV r1) _ _ s1 rfl (by omega)
  obtain ⟨P3, c3, d3, s3⟩ := cat15 P2 ⟨#[32]⟩ _ 1 s2 rfl (by omega)
  obtain ⟨P4, c4, d4, s4⟩ := cat15 P3 (FV (r2 - r0)) _ _ s3 rfl (by omega)
  obtain ⟨P5, c5, d5, s5⟩ := cat15 P4 ⟨#[32]⟩ _ 1 s4 rfl (by omega)
  obtain ⟨P6, c6, d6, s6⟩ := cat15 P5 (FV (r3 - r1)) _ _ s5 rfl (by omega)
  obtain ⟨P7, c7, d7, s7⟩ := cat15 P6 ⟨#[32, 114, 101, 10]⟩ _ 4 s6 rfl (by omega)
  have HT : Hid (P7 = ⟨(bxT r0 r1 r2 r3).toArray⟩) := hide (by
    have : P7.data.toList = bxT r0 r1 r2 r3 := by
      rw [d7, d6, d5, d4, d3, d2, d1, hFd, hFd, hFd, hFd]
      unfold bxT
      simp
    cases P7 with | mk d => cases d with | mk t => simp at this; rw [this])
  have CN2 : Hid (∀ (x : Int) (u : World), Below w.heap.size w u → Calls Tryd.prog 25 #[.int .i64 x] u fun e w' => e = .returned (.string (FV x)) ∧ Below u.heap.size u w') := hide (fun x u hu => by rw [hFV]; exact rnum_any x u (hg.below hu))
  clear d1 d2 d3 d4 d5 d6 d7 s1 s2 s3 s4 s5 s6 s7 f0 f1 f2 f3 hFs hFd hFV hg hk1 hk4
  go_enter Tryd.func28, Tryd.ntmps28
  go_wp2_with fail
  obtain ⟨R, hR⟩ : ∃ R, w.heap.size = R := ⟨_, rfl⟩
  have HX := hide hb
  rw [hR] at k1
  have HK := hide k1
  generalize w.alloc (.cells #[.int .i64 r0, .int .i64 r1, .int .i64 r2, .int .i64 r3] 36) = V at HX HK ⊢
  simp only [hR]
  have HRR := hide hR
  have KS : Hid (∀ x, Blk x R #[.int .i64 r0, .int .i64 r1, .int .i64 r2, .int .i64 r3] 36 → R < x.heap.size ∧ x.cell? ⟨R, 0, none⟩ = some (.int .i64 r0) ∧ x.cell? ⟨R, 1, none⟩ = some (.int .i64 r1) ∧ x.cell? ⟨R, 2, none⟩ = some (.int .i64 r2) ∧ x.cell? ⟨R, 3, none⟩ = some (.int .i64 r3)) := hide fun x hx => ⟨hx.lt, by simpa using hx.cell 0, by simpa using hx.cell 1, by simpa using hx.cell 2, by simpa using hx.cell 3⟩
  clear hb k1 hR
  go_region_held3 (fun x => R < x.heap.size ∧ x.cell? ⟨R, 0, none⟩ = some (.int .i64 r0) ∧ x.cell? ⟨R, 1, none⟩ = some (.int .i64 r1) ∧ x.cell? ⟨R, 2, none⟩ = some (.int .i64 r2) ∧ x.cell? ⟨R, 3, none⟩ = some (.int .i64 r3)) ((refine KS.out _ ?_; repeat (first | exact HK.out | refine blk_d ?_ | refine blk_a ?_ _))) ((first | (go_at_call 25; refine (CN2.out _ _ (by repeat (first | exact HX.out | refine bdr ?_ | refine ba2 ?_ _))).mono ?_; rintro e wz ⟨rfl, hz⟩; have HX0 := HX; have HK0 := HK; replace HX := hide (show Below w.heap.size w wz from below_t5 (by repeat (first | exact HX0.out | refine bdr ?_ | refine ba2 ?_ _)) hz); replace HK := hide (show Blk wz R #[.int .i64 r0, .int .i64 r1, .int .i64 r2, .int .i64 r3] 36 from Blk.below (by repeat (first | exact HK0.out | refine blk_d ?_ | refine blk_a ?_ _)) hz); clear HX0 HK0 hz)))
  all_goals (
    (try go_wp2_with fail)
    go_ret
    exact ⟨by rw [HT.out]; rfl, by first | exact HX.out | exact bdr HX.out⟩)
end Go.Proofs.YthhhepbflggojaaDoor.E15
