/-
  The text of marks, in plain words; what the landed write and Emit answer.
-/
import Derived.Test.YthhhepbflggojaaDoorE15E
import Derived.Test.YthhhepbflggojaaDoorE15K
namespace Go.Proofs.YthhhepbflggojaaDoor.E15
open Go.RowKit Go.Deep
set_option linter.unusedVariables false
set_option linter.unusedSimpArgs false
set_option maxRecDepth 8000

def mkT (m : Mk) : List UInt8 := if m.k = 1 then showT m else if m.k = 2 then bxT m.r0 m.r1 m.r2 m.r3 ++ [102, 10] else if m.k = 3 then [113, 10] ++ (bxT m.r0 m.r1 m.r2 m.r3 ++ [87, 32, 110, 10]) else [81, 10]
def emT (ms : List Mk) : List UInt8 := ms.flatMap mkT
def emE (ms : List Mk) : Int := if chkB ms then (if (emT ms).length ≤ 1048576 then 0 else 2) else 150
def emL (ms : List Mk) : List UInt8 := if emE ms = 0 then emT ms else []
theorem one_cases {m : Mk} (h : oneB m = true) :
    (m.k = 1 ∧ (0 ≤ m.f ∧ m.f ≤ 99) ∧ ∀ z ∈ m.gs, 0 ≤ z ∧ z ≤ 65535) ∨ (m.k = 2 ∧ R3.mayB m.r0 m.r1 m.r2 m.r3 = true ∧ m.gs = []) ∨ (m.k = 3 ∧ R3.mayB m.r0 m.r1 m.r2 m.r3 = true ∧ m.gs = []) ∨ (m.k = 4 ∧ m.gs = []) := by
  unfold oneB at h
  split at h
  · rename_i hk
    refine Or.inl ⟨hk, ?_, ?_⟩
    · simp [tB] at h
      omega
    · intro z hz
      simp only [tB, Bool.and_eq_true, Bool.not_eq_true', List.any_eq_false] at h
      have := h.1.2.2.2.2.2.2.2 z hz
      simp [noG] at this
      omega
  · split at h
    · rename_i hk
      rw [Bool.and_eq_true] at h
      have hb : R3.mayB m.r0 m.r1 m.r2 m.r3 = true := by
        have := h.1
        unfold bxB at this
        simp only [Bool.and_eq_true] at this
        exact this.2.2
      have hg : m.gs = [] := by have := al_of.1 h.2; rw [this]
      rcases hk with hk | hk
      · exact Or.inr (Or.inl ⟨hk, hb, hg⟩)
      · exact Or.inr (Or.inr (Or.inl ⟨hk, hb, hg⟩))
    · split at h
      · rename_i hk
        exact Or.inr (Or.inr (Or.inr ⟨hk, by have := al_of.1 h; rw [this]⟩))
      · cases h
theorem chk_one : ∀ (ms : List Mk) (o : Int), chk ms o = true → ∀ m ∈ ms, oneB m = true
  | [], _, _, m, hm => by simp at hm
  | x :: r, o, h, m, hm => by
    rw [chk] at h
    simp only [Bool.and_eq_true] at h
    rcases List.mem_cons.1 hm with rfl | hm
    · exact h.1
    · exact chk_one r _ h.2.2.2 m hm
theorem mkT_long {m : Mk} (h : oneB m = true) : 4 * m.gs.length ≤ (mkT m).length := by
  rcases one_cases h with ⟨hk, _, _⟩ | ⟨hk, _, hg⟩ | ⟨hk, _, hg⟩ | ⟨hk, hg⟩
  · unfold mkT
    rw [if_pos hk]
    unfold showT
    simp only [List.length_append, tjT_len]
    omega
  all_goals rw [hg]; simp
theorem mkT_short {m : Mk} (h : oneB m = true) : (mkT m).length ≤ 4 * m.gs.length + 300 := by
  rcases one_cases h with ⟨hk, hf, _⟩ | ⟨hk, _, hg⟩ | ⟨hk, _, hg⟩ | ⟨hk, hg⟩
  · unfold mkT
    rw [if_pos hk]
    unfold showT
    have h1 := fontT_len m.f.toNat m.s (by omega)
    have h2 := tmT_len m.x m.y
    simp only [List.length_append, List.length_cons, List.length_nil, tjT_len]
    omega
  all_goals (
    have h1 := bxT_len m.r0 m.r1 m.r2 m.r3
    unfold mkT
    simp [hk]
    try omega)
theorem emT_take (ms : List Mk) (k : Nat) (h : k < ms.length) : emT (ms.take (k + 1)) = emT (ms.take k) ++ mkT (ms.getD k m0) := by
  have htk : ms.take (k + 1) = ms.take k ++ [ms.getD k m0] := by
    rw [List.take_add_one, List.getD_eq_getElem?_getD, List.getElem?_eq_getElem h]; rfl
  rw [htk]
  unfold emT
  rw [List.flatMap_append]
  simp
theorem emT_le (ms : List Mk) (k : Nat) : (emT (ms.take k)).length ≤ (emT ms).length := by
  have : emT ms = emT (ms.take k) ++ emT (ms.drop k) := by
    unfold emT
    rw [← List.flatMap_append, List.take_append_drop]
  rw [this, List.length_append]
  omega
/- the landed write, of a mark that may stand -/
theorem write_any (B b tb : Nat) (F : List UInt8) (m : Mk) (ga : Option Addr) (n gc : Nat) (w : World) (h : WSt w B b F) (hg : GB B w) (ht : Blk w tb (tabC b) 58) (hne : tb ≠ b) (ho : oneB m = true)
    (hn : m.gs.length = n) (h1 : n ≤ 1048576) (hA : ∀ u, Below B w u → Lst u ga m.gs) (hl : F.length ≤ 800000000) :
    Calls Tryd.prog 23 #[.slice (some ⟨tb, 0, none⟩) 4 4, .agg (mcs m (.slice ga n gc))] w fun e w' => e = .returned (.tuple #[]) ∧ WSt w' B b (F ++ mkT m) ∧ PK B b w w' := by
  have hc := one_cases ho
  obtain ⟨K, f, s, x, y, gs, r0, r1, r2, r3⟩ := m
  simp only at hc hn hA
  simp only [mcs]
  rcases hc with ⟨rfl, ⟨hf0, hf1⟩, hz⟩ | ⟨rfl, hm, rfl⟩ | ⟨rfl, hm, rfl⟩ | ⟨rfl, rfl⟩
  · obtain ⟨f', rfl⟩ : ∃ f' : Nat, f = (f' : Int) := ⟨f.toNat, by omega⟩
    have e : mkT ⟨1, (f' : Int), s, x, y, gs, r0, r1, r2, r3⟩ = [66, 84, 10] ++ (fontT f' s ++ (tmT x y ++ (tjT gs ++ [69, 84, 10]))) := by
      unfold mkT showT
      simp
    rw [e]
    exact write_1 B b tb F _ (f' : Int) s x y r0 r1 r2 r3 ga n gc w h ht hne (fun u hu hp => show_any B b F 1 s x y r0 r1 r2 r3 f' ga n gc gs u hu (hg.on hp.below) (by omega) hn h1 hz (fun v hv => hA v (hp.below.trans hv)) hl)
  · have e : mkT ⟨2, f, s, x, y, [], r0, r1, r2, r3⟩ = bxT r0 r1 r2 r3 ++ [102, 10] := by unfold mkT; simp
    rw [e]
    exact write_2 B b tb F _ f s x y r0 r1 r2 r3 ga n gc w h ht hne (fun u hu hp => fill_any B b F 2 s x y r0 r1 r2 r3 f ga n gc [] u hu (hg.on hp.below) hm hl)
  · have e : mkT ⟨3, f, s, x, y, [], r0, r1, r2, r3⟩ = [113, 10] ++ (bxT r0 r1 r2 r3 ++ [87, 32, 110, 10]) := by unfold mkT; simp
    rw [e]
    exact write_3 B b tb F _ f s x y r0 r1 r2 r3 ga n gc w h ht hne (fun u hu hp => clip_any B b F 3 s x y r0 r1 r2 r3 f ga n gc [] u hu (hg.on hp.below) hm hl)
  · have e : mkT ⟨4, f, s, x, y, [], r0, r1, r2, r3⟩ = [81, 10] := by unfold mkT; simp
    rw [e]
    exact write_4 B b tb F _ f s x y r0 r1 r2 r3 ga n gc w h ht hne (fun u hu hp => end_any B b F 4 s x y r0 r1 r2 r3 f ga n gc [] u hu (hg.on hp.below) hl)
def EmR (ms : List Mk) (w : World) (e : Ending) (w' : World) : Prop := e = .returned (.tuple #[.string ⟨(emL ms).toArray⟩, .int .i64 (emE ms)]) ∧ Below w.heap.size w w'
theorem emR_bad {ms : List Mk} {w w' : World} (h : chkB ms = false) (hb : Below w.heap.size w w') : EmR ms w (.returned (.tuple #[.string ⟨#[]⟩, .int .i64 150])) w' := by
  have h1 : emE ms = 150 := by unfold emE; rw [h]; rfl
  have h2 : emL ms = [] := by unfold emL; rw [h1]; rfl
  unfold EmR
  rw [h1, h2]
  exact ⟨rfl, hb⟩
theorem emR_long {ms : List Mk} {w w' : World} (h : chkB ms = true) (hl : 1048576 < (emT ms).length) (hb : Below w.heap.size w w') : EmR ms w (.returned (.tuple #[.string ⟨#[]⟩, .int .i64 2])) w' := by
  have h1 : emE ms = 2 := by unfold emE; rw [if_pos h, if_neg (by omega)]
  have h2 : emL ms = [] := by unfold emL; rw [h1]; rfl
  unfold EmR
  rw [h1, h2]
  exact ⟨rfl, hb⟩
theorem emR_ok {ms : List Mk} {w w' : World} (h : chkB ms = true) (hl : (emT ms).length ≤ 1048576) (hb : Below w.heap.size w w') : EmR ms w (.returned (.tuple #[.string ⟨(emT ms).toArray⟩, .int .i64 0])) w' := by
  have h1 : emE ms = 0 := by unfold emE; rw [if_pos h, if_pos hl]
  have h2 : emL ms = emT ms := by unfold emL; rw [if_pos h1]
  unfold EmR
  rw [h1, h2]
  exact ⟨rfl, hb⟩
set_option maxHeartbeats 8000000 in
theorem emit_any (a : Option Addr) (n c : Nat) (ms : List Mk) (w : World) (hn : ms.length = n) (h1 : n ≤ 1000000) (hg : ∀ m ∈ ms, m.gs.length ≤ 1048576) (hL : MLst w a ms) (hG : D2.Glo w) :
    Calls Tryd.prog 13 #[.slice a n c] w (EmR ms w) := by
  have C := hide (check_any a n c ms w hn h1 hg hL)
  have h5 : (n : Int) ≤ 1000000 := by omega
  have Hn := hide hn
  have HG := hide hg
  have HL := hide hL
  have HGl := hide hG
  clear hn hg hL hG h1
  cases hcb : chkB ms
  · unfold chkV at C
    rw [hcb] at C
    simp only [if_false, Bool.false_eq_true] at C
    have HE := hide (fun (w' : World) (h : Below w.heap.size w w') => emR_bad hcb h)
    clear hcb
    go_enter Tryd.func13, Tryd.ntmps13
    go_wp2_with fail
    refine C.out.mono ?_
    rintro e w1 ⟨rfl, hb⟩
    have HB := hide hb
    clear hb
    go_wp2_with fail
    go_ret2
    exact HE.out _ HB.out
  unfold chkV at C
  rw [hcb] at C
  simp only [if_true] at C
  have HOK := hide (fun (w' : World) (hl : (emT ms).length ≤ 1048576) (h : Below w.heap.size w w') => emR_ok hcb hl h)
  have HLO := hide (fun (w' : World) (hl : 1048576 < (emT ms).length) (h : Below w.heap.size w w') => emR_long hcb hl h)
  have HON := hide (fun m (hm : m ∈ ms) => chk_one ms 0 (by have := hcb; unfold chkB at this; rw [Bool.and_eq_true] at this; exact this.2) m hm)
  clear hcb
  go_enter Tryd.func13, Tryd.ntmps13
  go_wp2_with fail
  refine C.out.mono ?_
  rintro e w1 ⟨rfl, hb⟩
  have HB := hide hb
  clear hb
  go_upto_region 5 with (fail)
  have k0 := Blk.new w1 #[.slice none 0 0] 45
  have hb0 := (Below.refl w1.heap.size w1).alloc (Nat.le_refl _) (.cells #[.slice none 0 0] 45)
  obtain ⟨B, hB⟩ : ∃ B, w1.heap.size = B := ⟨_, rfl⟩
  have hz0 : (w1.alloc (.cells #[.slice none 0 0] 45)).heap.size = B + 1 := by simp [hB]
  rw [hB] at k0 hb0
  generalize w1.alloc (.cells #[.slice none 0 0] 45) = V at k0 hb0 hz0 ⊢
  simp only [hB]
  have hws0 : WSt V B B [] := ⟨⟨.slice none 0 0, k0, World.ownsRow_nil _ _ _ _⟩, Nat.le_refl _, by omega⟩
  go_wp2_with fail
  refine (table_any B V).mono ?_
  rintro e V2 ⟨rfl, hV2⟩
  have hb1 : Below V.heap.size V V2 := by rw [hV2]; exact (Below.refl _ _).alloc (Nat.le_refl _) _
  have k1 : Blk V2 V.heap.size (tabC B) 58 := by rw [hV2]; exact Blk.new V _ _
  have HBB := hide (show w.heap.size ≤ B by rw [← hB]; exact HB.out.size)
  have HBV := hide (show Below B w1 V2 from hb0.trans (hb1.mono (by omega)))
  have HWS := hide (hws0.below hb1)
  have HK1 := hide k1
  have HGB : Hid (GB B w1) := hide (fun u hu => HGl.out.below (HB.out.trans (hu.mono HBB.out)))
  have HMT := hide (show ∀ u, Below B w1 u → Below w.heap.size w u from fun u hu => HB.out.trans (hu.mono HBB.out))
  have HZ0 := hide hz0
  rw [hz0]
  rw [hz0] at HK1
  clear hV2 hb1 k1 hws0 k0 hb0 hz0 hB C HGl HBB
  go_wp2_with fail
  go_loopw [17] (fun vi wr => ∃ (k : Nat), vi = .int .i64 k ∧ Hid (k ≤ n ∧ Below B w1 wr ∧ WSt wr B B (emT (ms.take k)) ∧ Blk wr (B + 1) (tabC B) 58 ∧ (emT (ms.take k)).length ≤ 1048576)) (fun vi _ => n - (intOf vi).toNat)
  case atStart => exact ⟨0, rfl, hide ⟨by omega, HBV.out, HWS.out, HK1.out, by simp [emT]⟩⟩
  case round =>
    clear HBV HWS HK1
    obtain ⟨k, rfl, HR⟩ := hrel
    obtain ⟨hk, hb, hws, hkt, hlen⟩ := HR.out
    have hk0 : (0 : Int) ≤ (k : Int) := by omega
    clear HR
    by_cases hlt : k < n
    case neg =>
      have hlt' : ¬ (k : Int) < (n : Int) := by omega
      rw [List.take_of_length_le (by rw [Hn.out]; omega)] at hws hlen
      obtain ⟨va, vc, hv⟩ := hws.val
      have hbl := hws.lt
      obtain ⟨⟨v, hkv, hrow⟩, _, _⟩ := hws
      obtain rfl : v = .slice va (emT ms).length vc := by
        have := hkv.cell 0
        rw [hv] at this
        simpa using this.symm
      have hcv := hrow.text
      have HE := hide (HOK.out wr hlen (HMT.out wr hb))
      generalize (⟨(emT ms).toArray⟩ : ByteArray) = T at hcv HE
      generalize (emT ms).length = q at *
      clear hkv hrow hlen hkt hb HOK HLO HON
      go_wp2_with fail
      go_ret2
      exact HE.out
    have hlt' : (k : Int) < (n : Int) := by omega
    have hl := Hn.out
    have hmem := gd_mem (show k < ms.length by omega)
    have hgs := HG.out _ hmem
    have hone := HON.out _ hmem
    have hlg := mkT_long hone
    have hsh := mkT_short hone
    have htk := emT_take ms k (by omega)
    have hle := emT_le ms (k + 1)
    rw [htk, List.length_append] at hle
    obtain ⟨mb, off, rfl, hbl, ga, gc, hM⟩ := HL.out.some (show k < ms.length by omega)
    have hbw := HMT.out wr hb
    have hM2 := hM.below hbl hbw
    have hbl2 : mb < wr.heap.size := Nat.lt_of_lt_of_le hbl hbw.size
    have HLS := hide (fun (u : World) (hu : Below B wr u) => hM.lst.below (HMT.out u (hb.trans hu)))
    generalize ms.getD k m0 = m at *
    clear hM
    obtain ⟨c0, c1, c2, c3, c4, c5, c6, c7, c8, c9, _⟩ := hM2
    obtain ⟨gn, hgn⟩ : ∃ gn, m.gs.length = gn := ⟨_, rfl⟩
    have HW := hide (fun (u : World) (h : WSt u B B (emT (ms.take k))) (hg : GB B u) (ht : Blk u (B + 1) (tabC B) 58) (hp : Below B wr u) => write_any B B (B + 1) (emT (ms.take k)) m ga gn gc u h hg ht (by omega) hone hgn (by omega) (fun v hv => HLS.out v (hp.trans hv)) (by omega))
    have CR := hide (fun (u : World) => room_any m ga gn gc u)
    rw [hgn] at c5 hlg hsh hgs
    have HTK := hide htk
    have HLE := hide hle
    have HLG := hide hlg
    have HSH := hide hsh
    have HLN := hide hlen
    have HB2 := hide hb
    have HWS := hide hws
    have HBW := hide hws.hB
    have HKT := hide hkt
    obtain ⟨K, f, s, x, y, gs, r0, r1, r2, r3⟩ := m
    simp only [mcs] at c0 c1 c2 c3 c4 c5 c6 c7 c8 c9 HW CR
    generalize mkT ⟨K, f, s, x, y, gs, r0, r1, r2, r3⟩ = MT at *
    have ha := (Below.refl wr.heap.size wr).alloc (Nat.le_refl _) (.cells #[.int .i64 K, .int .i64 f, .int .i64 s, .int .i64 x, .int .i64 y, .slice ga gn gc, .int .i64 r0, .int .i64 r1, .int .i64 r2, .int .i64 r3] 38)
    have km := Blk.new wr #[.int .i64 K, .int .i64 f, .int .i64 s, .int .i64 x, .int .i64 y, .slice ga gn gc, .int .i64 r0, .int .i64 r1, .int .i64 r2, .int .i64 r3] 38
    have HA := hide ha
    have HKM := hide km
    clear ha km hmem hone hgs hlg hsh htk hle hlen hb hws hkt hl hgn HON HOK HLS hbw
    by_cases hr : gn ≤ 262144
    case neg =>
      have e : decide ((gn : Int) ≤ 262144) = false := decide_eq_false (by omega)
      rw [e] at CR
      have HE := hide (fun (u : World) (h : Below B w1 u) => HLO.out u (by have := HLE.out; have := HLG.out; omega) (HMT.out u h))
      clear HLO e hr
      go_wp2_with fail
      refine (CR.out _).mono ?_
      rintro e w3 ⟨rfl, h3⟩
      have HX := hide (HB2.out.trans ((below_t5 HA.out h3).mono HWS.out.hB))
      clear h3 c0 c1 c2 c3 c4 c5 c6 c7 c8 c9
      go_wp2_with fail
      go_ret2
      exact HE.out _ HX.out
    have e : decide ((gn : Int) ≤ 262144) = true := decide_eq_true (by omega)
    rw [e] at CR
    clear e hr
    go_wp2_with fail
    refine (CR.out _).mono ?_
    rintro e w3 ⟨rfl, h3⟩
    have hx := below_t5 HA.out h3
    have km3 := HKM.out.below h3
    have HX := hide hx
    have HWS3 := hide (HWS.out.below hx)
    have HKT3 := hide (HKT.out.below hx)
    have HB3 := hide (HB2.out.trans (hx.mono HWS.out.hB))
    have q0 := km3.cell 0
    have q1 := km3.cell 1
    have q2 := km3.cell 2
    have q3 := km3.cell 3
    have q4 := km3.cell 4
    have q5 := km3.cell 5
    have q6 := km3.cell 6
    have q7 := km3.cell 7
    have q8 := km3.cell 8
    have q9 := km3.cell 9
    have ql := km3.lt
    simp only [List.getElem?_toArray, List.getElem?_cons_succ, List.getElem?_cons_zero] at q0 q1 q2 q3 q4 q5 q6 q7 q8 q9
    clear h3 c0 c1 c2 c3 c4 c5 c6 c7 c8 c9 hx km3 HA HKM HWS HKT
    go_wp2_with fail
    refine (HW.out _ HWS3.out (HGB.out.on HB3.out) HKT3.out (HX.out.mono HBW.out)).mono ?_
    rintro e w4 ⟨rfl, hws4, hpk4⟩
    have HB4 := hide (HB3.out.trans hpk4.below)
    have HKT4 := hide (hpk4.blk HKT3.out (by omega) tk_ne)
    obtain ⟨va, vc, hv⟩ := hws4.val
    have hl4 := hws4.lt
    have HWS4 := hide hws4
    obtain ⟨q, hq⟩ : ∃ q, (emT (ms.take k) ++ MT).length = q := ⟨_, rfl⟩
    rw [hq] at hv
    have HQ := hide hq
    clear hws4 hpk4 hq HW HWS3 HKT3 HB3 HX q0 q1 q2 q3 q4 q5 q6 q7 q8 q9 ql
    by_cases hql : q ≤ 1048576
    case neg =>
      have hqi : (1048576 : Int) < (q : Int) := by omega
      have HE := hide (HLO.out w4 (by have := HLE.out; have := HQ.out; rw [List.length_append] at this; omega) (HMT.out w4 HB4.out))
      clear HLO
      go_wp2_with fail
      go_ret2
      exact HE.out
    have hqi : ¬ (1048576 : Int) < (q : Int) := by omega
    have HFIN := hide (show k + 1 ≤ n ∧ Below B w1 w4 ∧ WSt w4 B B (emT (ms.take (k + 1))) ∧ Blk w4 (B + 1) (tabC B) 58 ∧ (emT (ms.take (k + 1))).length ≤ 1048576 from ⟨by omega, HB4.out, by rw [HTK.out]; exact HWS4.out, HKT4.out, by rw [HTK.out, HQ.out]; exact hql⟩)
    clear hql HLO
    go_wp2_with fail
    go_roundw
    case rel => exact ⟨k + 1, by go_num, HFIN⟩
    case measure => simp [intOf]; omega
end Go.Proofs.YthhhepbflggojaaDoor.E15
