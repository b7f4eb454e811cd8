/-
  The law SfntTurned, walked.
-/
import Derived.Test.YtgmmhlpdkoiheaaDoorS8Ux
import Derived.Test.YtgmmhlpdkoiheaaDoorBT
import Derived.Test.YtgmmhlpdkoiheaaDoorS8Wr
import Derived.Test.YtgmmhlpdkoiheaaDoorS8Wak
import Derived.WalkLawsBesides
import Derived.Lib.ConvBytes
namespace Go.Proofs.YtgmmhlpdkoiheaaDoor
open Go.RowKit Go.Deep
set_option linter.unusedVariables false
set_option linter.unusedSimpArgs false

/- bytes that lie in a block that is marked behind its end -/
def BM (w : World) (g : Nat) (m : List UInt8) : Prop := ∃ cur, w.heap[g]? = some (.cells cur 5 (cur.size, cur.size + 1)) ∧ m.length ≤ cur.size ∧ ∀ j, j < m.length → cur[j]? = some (bcell (m.getD j 0))
theorem BM.lt {w : World} {g : Nat} {m : List UInt8} (h : BM w g m) : g < w.heap.size := by
  obtain ⟨cur, h1, _⟩ := h
  rcases Nat.lt_or_ge g w.heap.size with hl | hl
  · exact hl
  · rw [Array.getElem?_eq_none hl] at h1; cases h1
theorem BM.cell {w : World} {g : Nat} {m : List UInt8} (h : BM w g m) (j : Nat) (hj : j < m.length) : w.cell? ⟨g, j, none⟩ = some (.int .u8 ((m.getD j 0).toNat : Int)) := by
  obtain ⟨cur, h1, h2, h3⟩ := h
  have := h3 j hj
  unfold World.cell?
  simp [h1]
  rw [this]; rfl
theorem BM.frozen {w : World} {g : Nat} {m : List UInt8} (h : BM w g m) (j : Nat) (hj : j < m.length) : w.frozen? ⟨g, j, none⟩ = false := by
  obtain ⟨cur, h1, h2, h3⟩ := h
  unfold World.frozen?
  simp [h1]
  omega
theorem BM.set {w : World} {g : Nat} {m : List UInt8} (h : BM w g m) (j : Nat) (hj : j < m.length) (c : UInt8) : BM (w.setCell ⟨g, j, none⟩ (bcell c)) g (m.set j c) := by
  obtain ⟨cur, h1, h2, h3⟩ := h
  refine ⟨cur.setIfInBounds j (bcell c), ?_, by simpa using h2, fun i hi => ?_⟩
  · simp [World.setCell, Array.getElem?_modify, h1]
  · have hi' : i < m.length := by simpa using hi
    rw [Array.getElem?_setIfInBounds]
    by_cases e : j = i
    · subst e
      rw [if_pos rfl, if_pos (by omega), List.getD_eq_getElem?_getD, List.getElem?_set_self hi']
      rfl
    · rw [if_neg e, h3 i hi', List.getD_eq_getElem?_getD, List.getD_eq_getElem?_getD, List.getElem?_set_ne e]
theorem BM.below {w w' : World} {g : Nat} {m : List UInt8} (h : BM w g m) (hb : Below w.heap.size w w') : BM w' g m := by
  have hl := h.lt
  obtain ⟨cur, h1, h2, h3⟩ := h
  exact ⟨cur, by rw [hb.block g hl]; exact h1, h2, h3⟩
theorem BM.text {w : World} {g c : Nat} {m : List UInt8} (h : BM w g m) : (convert 45 9 (.slice (some ⟨g, 0, none⟩) m.length c)).run Tryd.prog w = .ok (.string ⟨m.toArray⟩) w := by
  refine run_convert_bytes_back (P := Tryd.prog) w 45 9 5 ⟨g, 0, none⟩ c m Tryd.underlying45 Tryd.underlying5 Tryd.underlying9 ?_
  intro j hj
  rw [Go.WideShapes.add_plain, Nat.zero_add, h.cell j hj, List.getD_eq_getElem?_getD, List.getElem?_eq_getElem hj]
  rfl
theorem BM.new (w : World) (s : ByteArray) : BM (Lib.bytesWorld w 5 s) w.heap.size s.data.toList := by
  refine ⟨_, Lib.bytesWorld_at_new w 5 s, ?_, fun j hj => ?_⟩
  · rw [← Lib.size_eq]
    have : s.size ≤ (s.data.map fun b => Value.int .u8 b.toNat).size := by simp
    unfold Lib.bytesCells
    rw [Array.size_append]
    omega
  · have hj' : j < s.size := by rw [Lib.size_eq]; exact hj
    have := Lib.bytesWorld_cell w 5 s j hj'
    unfold World.cell? at this
    simp [Lib.bytesWorld_at_new] at this
    rw [this]
    simp [bcell]
theorem bytes_below (w : World) (s : ByteArray) : Below w.heap.size w (Lib.bytesWorld w 5 s) := ⟨rfl, rfl, rfl, by rw [Lib.bytesWorld_size]; omega, fun k hk => Lib.bytesWorld_at_old w _ s k hk⟩
/- the law's same, whatever two lists of one length -/
def SmR (w : World) (e : Ending) (w' : World) : Prop := ∃ B : Bool, e = .returned (.bool B) ∧ Below w.heap.size w w'
theorem tsame_bool (a b : Option Addr) (l l2 : List Tab) (n ca cb : Nat) (w : World) (hn : l.length = n) (hn2 : l2.length = n) (hm : n ≤ 1048576) (hA : TLst w a l) (hB : TLst w b l2) :
    Calls Tryd.prog 15 #[.slice a n ca, .slice b n cb] w (SmR w) := by
  have HA := hide hA
  have HB := hide hB
  have HN := hide hn
  have HN2 := hide hn2
  have h5 : (n : Int) ≤ 1048576 := by omega
  have t0 : ((n : Int) != (n : Int)) = false := by simp
  clear hA hB hn hn2 hm
  go_enter Tryd.func15, Tryd.ntmps15
  go_wp2_with fail
  go_loopw [5] (fun vi wr => ∃ (k m : Nat), vi = .int .i64 k ∧ wr = w.drewN m ∧ Hid (k ≤ n)) (fun vi _ => n - (intOf vi).toNat)
  case atStart => exact ⟨0, 0, rfl, rfl, hide (by omega)⟩
  case round =>
    obtain ⟨k, m, rfl, rfl, HK⟩ := hrel
    by_cases hlt : k < n
    · have hlt' : (k : Int) < (n : Int) := by omega
      have hl := HN.out
      have hl2 := HN2.out
      obtain ⟨x, hx⟩ : ∃ x, l[k]? = some x := ⟨_, List.getElem?_eq_getElem (by omega)⟩
      obtain ⟨y, hy⟩ : ∃ y, l2[k]? = some y := ⟨_, List.getElem?_eq_getElem (by omega)⟩
      rcases HA.out with hz | ⟨p, po, rfl, hp, hcp⟩
      · rw [hz] at hl; simp at hl; omega
      rcases HB.out with hz | ⟨q, qo, rfl, hq, hcq⟩
      · rw [hz] at hl2; simp at hl2; omega
      obtain ⟨c0, c1⟩ := hcp k x hx
      obtain ⟨d0, d1⟩ := hcq k y hy
      obtain ⟨x1, x2⟩ := x
      obtain ⟨y1, y2⟩ := y
      simp only at c0 c1 d0 d1
      clear hcp hcq hl hl2 hx hy
      cases h1 : (x1.toList == y1.toList) with
      | false =>
        go_wp2_with fail
        go_quiet (fail)
        go_wp2
        go_ret
        exact ⟨_, rfl, below_drewN (below_drewN (Below.refl _ _) _) _⟩
      | true =>
        cases h2 : (x2.toList == y2.toList) with
        | false =>
          go_wp2_with fail
          go_quiet (fail)
          go_wp2
          go_ret
          exact ⟨_, rfl, below_drewN (below_drewN (Below.refl _ _) _) _⟩
        | true =>
          go_wp2_with fail
          go_quiet (fail)
          go_wp2
          go_roundw
          case rel => exact ⟨k + 1, _, by go_num, rfl, hide (by omega)⟩
          case measure => simp [intOf]; omega
    · have hlt' : ¬ (k : Int) < (n : Int) := by omega
      go_wp2
      go_ret
      exact ⟨_, rfl, below_drewN (Below.refl _ _) _⟩
def modV (x n : Int) : Int := (x.tmod n + n).tmod n
theorem modV_bd (x n : Int) (hn : 1 ≤ n) : 0 ≤ modV x n ∧ modV x n < n := by
  have y1 : -n < x.tmod n := Int.lt_tmod_of_pos x (by omega)
  unfold modV
  exact ⟨Int.tmod_nonneg _ (by omega), Int.tmod_lt_of_pos _ (by omega)⟩
theorem mod_any (x n : Int) (w : World) (hn : 1 ≤ n) (hn2 : n ≤ 1000000000) (hx : -9223372036854775808 ≤ x) (hx2 : x ≤ 9223372036854775807) :
    Calls Tryd.prog 23 #[.int .i64 x, .int .i64 n] w fun e w' => e = .returned (.int .i64 (modV x n)) ∧ w' = w := by
  obtain ⟨y, hy⟩ : ∃ y, x.tmod n = y := ⟨_, rfl⟩
  have y1 : -n < y := by rw [← hy]; exact Int.lt_tmod_of_pos x (by omega)
  have y2 : y < n := by rw [← hy]; exact Int.tmod_lt_of_pos x (by omega)
  obtain ⟨z1, z2⟩ := modV_bd x n hn
  obtain ⟨z, hz⟩ : ∃ z, (y + n).tmod n = z := ⟨_, rfl⟩
  have e : modV x n = z := by unfold modV; rw [hy, hz]
  rw [e] at z1 z2 ⊢
  clear e
  have n1 : ¬ n < 1 := by omega
  have n0 : n ≠ 0 := by omega
  have n9 : (n == 0) = false := by simpa using n0
  go_enter Tryd.func23, Tryd.ntmps23
  go_wp2_with fail
  go_ret
  exact ⟨rfl, rfl⟩
set_option maxRecDepth 20000 in
set_option maxHeartbeats 8000000 in
theorem turned_walk (a : Option Addr) (n c : Nat) (l : List Tab) (at_ by_ : Int) (w : World) (hT : TIn w a n l) (hG : Glo8 w) (hat : -9223372036854775808 ≤ at_ ∧ at_ ≤ 9223372036854775807) (hby : -9223372036854775808 ≤ by_ ∧ by_ ≤ 9223372036854775807) :
    Calls Tryd.prog 8 #[.slice a n c, .int .i64 at_, .int .i64 by_] w fun e w' => e = .returned (.bool true) ∧ Below w.heap.size w w' := by
  have CLg := hide (long_any a l n c w hT)
  have CW := hide (fun w hg => wakes8_any w hg)
  have HT := hide hT
  have HG := hide hG
  have HAT := hide hat
  have HBY := hide hby
  have hnm : (n : Int) ≤ 4398046511104 := by have := hT.most; omega
  clear hT hG hat hby
  go_enter Tryd.func8, Tryd.ntmps8
  go_wp2_with fail
  refine CLg.out.mono ?_
  rintro e w1 ⟨B, rfl, hB, m1, rfl⟩
  have HW1 := hide (below_drewN (Below.refl w.heap.size w) m1)
  cases B with
  | true =>
    clear hB
    go_wp2_with (go_at_call 9; refine (CW.out _ (HG.out.below HW1.out)).mono ?_; rintro e w2 ⟨rfl, h2⟩)
    go_ret
    exact ⟨rfl, below_t5 HW1.out h2⟩
  | false =>
    obtain ⟨hn4, hx4⟩ := hB rfl
    clear hB
    generalize w.drewN m1 = w1 at HW1 ⊢
    obtain ⟨g, c', w2, hr, t2, b2⟩ := app_tabs w1 a n c w1.heap.size l HT.out.len (by omega) (HT.out.lst.below HW1.out) rfl
    have HRU := hide hr
    have HB2 := hide (below_t5 HW1.out b2)
    have hzz : ∀ x ∈ l, x.1.size ≤ 1073741824 ∧ x.2.size ≤ 1073741824 := fun x hx => by have := hx4 x hx; omega
    have C1 := hide (build_any (some ⟨g, 0, none⟩) l n c' w2 HT.out.len (by omega) hzz t2 (HG.out.below HB2.out))
    unfold BuR at C1
    have hn40 : (n : Int) ≤ 20000 := by omega
    clear hr t2 b2 hx4 hzz
    by_cases hE : bErr l = 0
    case neg =>
      have hE' : (bErr l != 0) = true := by simpa using hE
      generalize btS l = TX at C1
      generalize bErr l = ER at C1 hE'
      clear hE
      go_wp2_with (at_builtin; refine Lib.wpList_append_run _ rfl _ _ _ _ rfl _ _ rfl rfl _ _ HRU.out ?_)
      refine C1.out.mono ?_
      rintro e w3 ⟨rfl, h3⟩
      have HB3 := hide (below_t5 HB2.out h3)
      clear h3
      go_wp2_with (go_at_call 9; refine (CW.out _ (HG.out.below HB3.out)).mono ?_; rintro e w4 ⟨rfl, h4⟩)
      go_ret
      exact ⟨rfl, below_t5 HB3.out h4⟩
    obtain ⟨hgo, hm, hsz, hn1, hn2⟩ := ok_facts hE
    obtain ⟨m, hmm⟩ : ∃ m, sorV l = m := ⟨_, rfl⟩
    rw [hmm] at hgo hm hsz
    rw [HT.out.len] at hm hsz hn1 hn2
    have hbt : btS l = ⟨(txtV m).toArray⟩ := by unfold btS; rw [if_pos hE, hmm]
    rw [hbt, hE] at C1
    have hF1 := txt_err hgo hm hn1 hn2 hsz
    have hF2 := txt_tab hgo hm hn1 hn2 hsz
    have hlen : (⟨(txtV m).toArray⟩ : ByteArray).size = plT m n := by
      rw [Lib.size_eq]; exact (txt_both hgo hm).1.len
    have HTN := hide (fun (k : Nat) (c : UInt8) hk1 hk2 hc => And.intro (turn_err hgo hm hn1 hn2 hsz (k := k) (c := c) hk1 hk2 hc) (turn_who hgo hm hn1 hn2 hsz (k := k) (c := c) hk1 hk2 hc))
    have HTL := hide (fun (k : Nat) (c : UInt8) hk1 hk2 hc hE => (laid_tab (turn_laid hgo hm hn1 hn2 hsz (k := k) (c := c) hk1 hk2 hc) hgo hm hn1 hn2 hsz hE))
    have hfr : 12 + 16 * n ≤ plT m n := by unfold plT; omega
    obtain ⟨TL, hTL⟩ : ∃ T, txtV m = T := ⟨_, rfl⟩
    rw [hTL] at HTN HTL hF1 C1 hF2 hlen
    obtain ⟨TX, hTX⟩ : ∃ T : ByteArray, (⟨TL.toArray⟩ : ByteArray) = T := ⟨_, rfl⟩
    have hTX2 : TX.data.toList = TL := by rw [← hTX]
    rw [hTX] at C1 hF2 hlen
    obtain ⟨SZ, hSZ⟩ : ∃ S, plT m n = S := ⟨_, rfl⟩
    rw [hSZ] at hlen hsz hfr
    have hTll : TL.length = SZ := by rw [← hTX2, ← Lib.size_eq]; exact hlen
    subst hlen
    have hszi : (TX.size : Int) ≤ 1048576 := by omega
    have hfri : 12 + 16 * (n : Int) ≤ (TX.size : Int) := by omega
    have h32 : (n : Int) ≤ 32 := by omega
    have CR1 := hide (fun w hg => read_gen TX w hg (by omega))
    unfold RdR at CR1
    rw [show errV TX.data.toList = 0 by rw [hTX2]; exact hF1, hF2] at CR1
    have HBL := hide (bk_len m n)
    have HTX2 := hide hTX2
    have HTLL := hide hTll
    clear hF1 hF2 hgo hm hsz hmm hE hbt hTL hTX hSZ hTX2 hTll hn4
    go_wp2_with (at_builtin; refine Lib.wpList_append_run _ rfl _ _ _ _ rfl _ _ rfl rfl _ _ HRU.out ?_)
    refine C1.out.mono ?_
    rintro e w3 ⟨rfl, h3⟩
    have HB3 := hide (below_t5 HB2.out h3)
    clear h3
    obtain ⟨FR, hFR⟩ : ∃ F : Nat, 12 + 16 * n = F := ⟨_, rfl⟩
    have hFRi : 12 + 16 * (n : Int) = (FR : Int) := by omega
    have hFS : (FR : Int) ≤ (TX.size : Int) := by omega
    have HFR := hide hFR
    have hSF : ¬ (TX.size : Int) < (FR : Int) := by omega
    clear hfri hfr hFR
    by_cases hends : FR = TX.size
    · have hee : ((FR : Int) == (TX.size : Int)) = true := by simp; omega
      clear hends
      go_wp2_with (go_at_call 9; refine (CW.out _ (HG.out.below HB3.out)).mono ?_; rintro e w4 ⟨rfl, h4⟩)
      go_ret
      exact ⟨rfl, below_t5 HB3.out h4⟩
    have hee : ((FR : Int) == (TX.size : Int)) = false := by simp; omega
    obtain ⟨DF, hDF⟩ : ∃ D : Nat, (TX.size : Int) - (FR : Int) = (D : Int) := ⟨TX.size - FR, by omega⟩
    have hDF1 : (1 : Int) ≤ (DF : Int) := by omega
    have CM1 := hide (mod_any at_ (DF : Int) w3 (by omega) (by omega) HAT.out.1 HAT.out.2)
    clear hends
    go_wp2_with fail
    refine CM1.out.mono ?_
    rintro e w4 ⟨rfl, hw4⟩
    replace hw4 := hw4.symm
    subst hw4
    obtain ⟨rb1, rb2⟩ := modV_bd at_ (DF : Int) (by omega)
    obtain ⟨r, hr⟩ : ∃ r : Nat, modV at_ (DF : Int) = (r : Int) := ⟨(modV at_ (DF : Int)).toNat, by omega⟩
    rw [hr] at rb1 rb2 ⊢
    obtain ⟨KK, hKK⟩ : ∃ K : Nat, (FR : Int) + (r : Int) = (K : Int) := ⟨FR + r, by omega⟩
    have hK1 : (FR : Int) ≤ (KK : Int) := by omega
    have hK2 : (KK : Int) < (TX.size : Int) := by omega
    have hK3 : KK < TX.size := by omega
    have hcv := Lib.run_convert_string_bytes (P := Tryd.prog) w3 9 45 5 TX (u := .string) Tryd.underlying9 Tryd.underlying45 Tryd.underlying5
    have hbm := BM.new w3 TX
    have hbb := bytes_below w3 TX
    rw [HTX2.out] at hbm
    have HBM := hide hbm
    have HBB := hide hbb
    generalize grownCap w3 TX.size 0 5 = GC at hcv
    generalize Lib.bytesWorld w3 5 TX = V2 at hcv HBM HBB
    have hgw : w.heap.size ≤ w3.heap.size := HB3.out.size
    generalize hgg : w3.heap.size = gb at hcv HBM hgw
    have HGG := hide hgg
    have HGW := hide hgw
    clear hbm hbb hgg hgw CM1 hr rb1 rb2
    go_wp2_with fail
    clear hcv
    rename_i kk0
    have HA := hide kk0
    clear kk0
    obtain ⟨x, hx⟩ : ∃ x, TL.getD KK 0 = x := ⟨_, rfl⟩
    have hTlk : KK < TL.length := by rw [HTLL.out]; exact hK3
    have hxk : TL[KK] = x := by rw [← hx, List.getD_eq_getElem?_getD, List.getElem?_eq_getElem hTlk]; rfl
    obtain ⟨qb1, qb2⟩ := modV_bd by_ 255 (by omega)
    obtain ⟨v, hv, hv0⟩ : ∃ v : UInt8, (1 : Int) + modV by_ 255 = (v.toNat : Int) ∧ v ≠ 0 := by
      refine ⟨UInt8.ofNat (1 + (modV by_ 255).toNat), ?_, fun e => ?_⟩
      · rw [UInt8.toNat_ofNat']; omega
      · have := congrArg UInt8.toNat e
        rw [UInt8.toNat_ofNat'] at this
        simp at this
        omega
    have CM2 := hide (fun w => mod_any by_ 255 w (by omega) (by omega) HBY.out.1 HBY.out.2)
    generalize modV by_ 255 = r2 at hv qb1 qb2 CM2
    have hv1 : (v.toNat : Int) ≤ 255 := by omega
    have hv2 : IntKind.u8.wrap (v.toNat : Int) = (v.toNat : Int) := by simp [IntKind.wrap, IntKind.bits, IntKind.signed]; omega
    have hv3 : IntKind.i64.wrap (v.toNat : Int) = (v.toNat : Int) := wraps_i64 _ (by omega) (by omega)
    have hxo := xor_u8 x v
    have hxn := xor_ne x v hv0
    obtain ⟨cc, hcc⟩ : ∃ cc, x ^^^ v = cc := ⟨_, rfl⟩
    rw [hcc] at hxo hxn
    have HXN := hide hxn
    have hV2c : V2.cell? ⟨gb, KK, none⟩ = some (.int .u8 (x.toNat : Int)) := by rw [HBM.out.cell KK hTlk, hx]
    have hV2f : V2.frozen? ⟨gb, KK, none⟩ = false := HBM.out.frozen KK hTlk
    have HXK := hide hxk
    have HTK := hide hTlk
    clear hx hxk hxn hcc hv0
    go_region_with ((go_at_call 23; refine (CM2.out _).mono ?_; rintro e y9 ⟨rfl, hy9⟩; replace hy9 := hy9.symm; subst hy9))
    all_goals
      refine HA.out _ _ ?_
      clear HA hV2c hV2f
      have K5 : BM (V2.setCell ⟨gb, KK, none⟩ (.int .u8 (cc.toNat : Int))).drew gb (TL.set KK cc) := (HBM.out.set KK hTlk cc).below ((Below.refl _ _).drew)
      have B5 : Below w.heap.size w (V2.setCell ⟨gb, KK, none⟩ (.int .u8 (cc.toNat : Int))).drew := ((below_t5 HB3.out HBB.out).setCell (p := ⟨gb, KK, none⟩) HGW.out _).drew
      generalize (V2.setCell ⟨gb, KK, none⟩ (.int .u8 (cc.toNat : Int))).drew = W5 at K5 B5 ⊢
      have htn := HTN.out KK cc (by rw [HFR.out]; omega) hTlk (by rw [HXK.out]; exact HXN.out)
      have htl := HTL.out KK cc (by rw [HFR.out]; omega) hTlk (by rw [HXK.out]; exact HXN.out)
      have hYl : (TL.set KK cc).length = TX.size := by rw [List.length_set]; exact HTLL.out
      have hcv : ∀ u, Below W5.heap.size W5 u → (convert 45 9 (.slice (some ⟨gb, 0, none⟩) TX.size GC)).run Tryd.prog u = .ok (.string ⟨(TL.set KK cc).toArray⟩) u := fun u hu => by
        have := BM.text (c := GC) (K5.below hu)
        rw [hYl] at this
        exact this
      obtain ⟨TY, hTY⟩ : ∃ T : ByteArray, (⟨(TL.set KK cc).toArray⟩ : ByteArray) = T := ⟨_, rfl⟩
      have hTY2 : TL.set KK cc = TY.data.toList := by rw [← hTY]
      have hYs : TY.size = TX.size := by rw [Lib.size_eq, ← hTY2]; exact hYl
      rw [hTY] at hcv htn htl
      rw [hTY2] at htn htl
      have hcv0 := hcv W5 (Below.refl _ _)
      have HCV := hide hcv
      have HB5 := hide B5
      have CR2 := hide (fun w hg => read_gen TY w hg (by rw [hYs]; omega))
      have CWh := hide (fun w hg => whole_any TY w hg (by rw [hYs]; omega))
      unfold RdR at CR2
      have HTN5 := hide htn
      have HTL5 := hide htl
      clear K5 B5 htn htl hYl hcv hTY2 hYs hTY HBM HBB HXK HXN HTK HTN HTL CM2 hv hv1 hv2 hv3 hxo qb1 qb2 hTlk
      go_wp2_with fail
      refine (CR2.out _ (HG.out.below HB5.out)).mono ?_
      rintro e w6 ⟨vm, rfl, hTm, h6⟩
      have HTm := hide hTm
      have HB6 := hide (below_t5 HB5.out h6)
      have H56 := hide h6
      clear hTm h6 hcv0
      rcases HTN5.out.1 with hE0 | hE81
      case inr =>
        rw [hE81]
        have hem : tabV TY = [] := tabV_no (by rw [hE81]; decide)
        have hTm := HTm.out
        rw [hem] at hTm
        obtain ⟨va, vc, hvm⟩ := hTm.shape
        simp only [List.length_nil] at hvm
        subst hvm
        clear hem hTm hE81
        go_wp2_with fail
        refine (CR1.out _ (HG.out.below HB6.out)).mono ?_
        rintro e w7 ⟨vw, rfl, _, h7⟩
        have HB7 := hide (below_t5 HB6.out h7)
        clear h7
        go_wp2_with (go_at_call 9; refine (CW.out _ (HG.out.below HB7.out)).mono ?_; rintro e w8 ⟨rfl, h8⟩)
        go_ret
        exact ⟨rfl, below_t5 HB7.out h8⟩
      rw [hE0]
      have hwho := HTN5.out.2 hE0
      have htl := HTL5.out hE0
      have hml : (tabV TY).length = n := by rw [htl]; simp
      obtain ⟨va, vc, hvm⟩ := HTm.out.shape
      rw [hml] at hvm
      subst hvm
      have HML := hide hml
      clear htl hml hE0 HTN5 HTL5
      go_wp2_with fail
      refine (CR1.out _ (HG.out.below HB6.out)).mono ?_
      rintro e w7 ⟨vw, rfl, hTw, h7⟩
      have HB7 := hide (below_t5 HB6.out h7)
      have H57 := hide (below_t5 H56.out h7)
      obtain ⟨wa, wc, hvw⟩ := hTw.shape
      rw [HBL.out] at hvw
      subst hvw
      obtain ⟨a1, c1, e1, hL1⟩ := (HTm.out.later h7).lst
      obtain ⟨a2, c2, e2, hL2⟩ := hTw.lst
      rw [HML.out] at e1
      rw [HBL.out] at e2
      injection e1 with f1 _ f3
      injection e2 with g1 _ g3
      subst f1 f3 g1 g3
      by_cases heq : tabV TY = bkM m n
      · rw [heq] at hL1
        have CS := hide (tsame_any va wa (bkM m n) n vc wc w7 HBL.out (by omega) hL1 hL2)
        clear hL1 hL2 hTw h7 heq hwho
        go_wp2_with fail
        refine CS.out.mono ?_
        rintro e w8 ⟨rfl, m8, rfl⟩
        have HB8 := hide (below_drewN HB7.out m8)
        go_wp2_with fail
        refine (CW.out _ (HG.out.below HB8.out)).mono ?_
        rintro e w9 ⟨rfl, h9⟩
        have HB9 := hide (below_t5 HB8.out h9)
        clear h9
        go_wp2_with fail
        go_ret
        exact ⟨rfl, HB9.out⟩
      · have hwf : whoB TY = false := by
          rcases hwho with h | h
          · exact absurd h heq
          · exact h
        rw [hwf] at CWh
        have CS := hide (tsame_bool va wa (tabV TY) (bkM m n) n vc wc w7 HML.out HBL.out (by omega) hL1 hL2)
        clear hL1 hL2 hTw h7 heq hwho hwf
        go_wp2_with fail
        refine CS.out.mono ?_
        rintro e w8 ⟨B, rfl, h8⟩
        have HB8 := hide (below_t5 HB7.out h8)
        have H58 := hide (below_t5 H57.out h8)
        clear h8
        cases B with
        | true =>
          go_wp2_with fail
          refine (CW.out _ (HG.out.below HB8.out)).mono ?_
          rintro e w9 ⟨rfl, h9⟩
          have HB9 := hide (below_t5 HB8.out h9)
          clear h9
          go_wp2_with fail
          go_ret
          exact ⟨rfl, HB9.out⟩
        | false =>
          have hcv8 := HCV.out w8 H58.out
          go_wp2_with fail
          refine (CWh.out _ (HG.out.below HB8.out)).mono ?_
          rintro e w9 ⟨rfl, h9⟩
          have HB9 := hide (below_t5 HB8.out h9)
          clear h9 hcv8
          go_wp2_with fail
          refine (CW.out _ (HG.out.below HB9.out)).mono ?_
          rintro e w10 ⟨rfl, h10⟩
          have HB10 := hide (below_t5 HB9.out h10)
          clear h10
          go_wp2_with fail
          go_ret
          exact ⟨rfl, HB10.out⟩
end Go.Proofs.YtgmmhlpdkoiheaaDoor
