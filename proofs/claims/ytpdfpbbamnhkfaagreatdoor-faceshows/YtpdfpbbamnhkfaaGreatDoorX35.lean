/-
  Joined: M9RRa, F12Rg.
-/
import Derived.BigQuiet
import Derived.Deep.RegionHeld3
import Derived.Deep.RegionLaw
import Derived.SizedLaws
import Derived.SliceStrings
import Derived.Test.YtpdfpbbamnhkfaaGreatDoorX14
import Derived.Test.YtpdfpbbamnhkfaaGreatDoorX16
import Derived.Test.YtpdfpbbamnhkfaaGreatDoorX31
import Derived.Test.YtpdfpbbamnhkfaaGreatDoorX34
namespace Go.Proofs.YtpdfpbbamnhkfaaGreatDoor
open Go.RowKit Go.Deep
set_option linter.unusedVariables false
set_option linter.unusedSimpArgs false
theorem app_i1 {W : World} {B : Nat} {v : Value} {zs : List Int} (x : Int) (h : IRow W B v zs) (hB : B ≤ W.heap.size) (hl : zs.length ≤ 1000000) (H : Nat) (hH : W.heap.size = H) :
    ∃ v' w2, (Builtin.append_ #[23, 23] 23 #[v, .slice (some ⟨H, 0, none⟩) 1 1]).run Tryz.prog (W.alloc (.cells #[.int .i64 x] 3)) = .ok v' w2 ∧
      IRow w2 B v' (zs ++ [x]) ∧ (v'.ownBlock = v.ownBlock ∨ ∃ g, v'.ownBlock = some g ∧ W.heap.size ≤ g) ∧ W.heap.size ≤ w2.heap.size ∧ (∀ k, k < W.heap.size → v.ownBlock ≠ some k → w2.heap[k]? = W.heap[k]?) ∧ Below B W w2 := by
  obtain ⟨i0, hi, hz0, hz1, hz2⟩ := info_parts5 info_int
  subst hH
  obtain ⟨g, cap, w2, hr, ho, hg, hat, _⟩ := run_append_lies (P := Tryz.prog) (W.alloc (.cells #[.int .i64 x] 3)) 23 23 B 3 i0 _ 1 8 Tryz.underlying23 hi hz0 hz1 hz2 rfl (by decide) v zs.length (zs.map (Value.int .i64)) (World.ownsRow.alloc h _) ⟨W.heap.size, 0, none⟩ 1 1 [.int .i64 x] (by simp)
    (fun j u hu => by rw [Go.WideShapes.add_plain, Nat.zero_add, World.cell?_alloc_at _ _ _ _ rfl]; simpa using hu) (fun u hu => by simp at hu; subst hu; rfl) (by decide) (by unfold maxLen; omega) (by omega) (by simp; omega) (W.heap.size + 1) (by simp)
  refine ⟨_, w2, hr, ?_, ?_, ?_, ?_, ((Below.refl B W).alloc hB _).grown hg (by simp; omega) fun k hk' => (World.ownsRow.lt h k hk').1⟩
  · unfold IRow
    rw [List.map_append, List.length_append]
    exact ho
  · rcases hat with hat | hat
    · exact Or.inl (by rw [hat]; rfl)
    · exact Or.inr ⟨g, rfl, by omega⟩
  · have := hg.size; simp at this; omega
  · intro k hk hne
    rw [hg.block k (by simp; omega) (Ne.symm hne)]
    exact ((Below.refl W.heap.size W).alloc (Nat.le_refl _) (.cells #[.int .i64 x] 3)).block k hk
end Go.Proofs.YtpdfpbbamnhkfaaGreatDoor
namespace Go.Proofs.YtpdfpbbamnhkfaaGreatDoor.F12
open Go.RowKit Go.Deep
set_option linter.unusedVariables false
set_option linter.unusedSimpArgs false
theorem wpl_app_ex {P : Program} (w : World) {ops : Array Oper} {rest : List Oper} {o : Oper} {a : Act} {Q : Exit → Act → World → Prop} (hgd : o.guard = none) (s x : Operand) (t tn : TypeId)
    (ho : o.op = .call { callee := .builtin .append, args := #[s, x], argTypes := #[t, tn] }) (vs vx : Value) (hs : a.eval s = vs) (hx : a.eval x = vx)
    {G : Value → World → Prop} (hr : ∃ v' w', (Builtin.append_ #[t, tn] o.type #[vs, vx]).run P w = .ok v' w' ∧ G v' w') (h : ∀ v' w', G v' w' → wpList P ops Q rest (a.put o.dst v') w') : wpList P ops Q (o :: rest) a w := by
  obtain ⟨v', w', hr, hG⟩ := hr
  exact Lib.wpList_append_run w hgd s x t tn ho vs vx hs hx v' w' hr (h v' w' hG)
def ShQ (w : World) (cs : List C11.Ch) (zs : List Int) (n : Nat) (e : Ending) (w' : World) : Prop := Below w.heap.size w w' ∧ ((∃ k, shI cs zs = some k ∧ k < n ∧ e = .returned (.tuple #[.slice none 0 0, .int .i64 (k : Int), .int .i64 120])) ∨ (shI cs zs = none ∧ ∃ a c, e = .returned (.tuple #[.slice a n c, .int .i64 0, .int .i64 0]) ∧ Lst w' a ((List.range n).map (shF cs zs))))
theorem range_snoc (f : Nat → Int) (k : Nat) : (List.range (k + 1)).map f = (List.range k).map f ++ [f k] := by rw [List.range_succ]; simp
set_option maxRecDepth 8000 in
set_option maxHeartbeats 4000000 in
theorem rshow_any (m : Mt) (va vb vg : Value) (ca : Option Addr) (nc cc : Nat) (cs : List C11.Ch) (la : Option Addr) (n c : Nat) (zs : List Int) (w : World) (hn : zs.length = n) (hm : n ≤ 100000) (hz : ∀ z ∈ zs, C11.R64 z) (hl : cs.length = nc) (hc : nc ≤ 1073741824) (hr : ∀ i, i < cs.length → C11.RC (cs.getD i C11.c0)) (hC : C11.CLst w ca cs) (hL : Lst w la zs) :
    Calls Tryz.prog 21 #[.agg (fcs m va vb vg (.slice ca nc cc)), .slice la n c] w (ShQ w cs zs n) := by
  obtain ⟨up, sc, de, ga, b0, b1, b2, b3, lg, ad, be⟩ := m
  have hm' : (n : Int) ≤ 100000 := by omega
  have CF := hide (fun (z : Int) (u : World) (hz : C11.R64 z) (hu : Below w.heap.size w u) => C11.rfind_any ca cs nc cc z u hl hc hz hr (hC.below hu))
  have HL := hide hL
  have HN := hide hn
  have HZ := hide hz
  have kb0 := Blk.new w #[.int .i64 up, .int .i64 sc, .int .i64 de, .int .i64 ga, .int .i64 b0, .int .i64 b1, .int .i64 b2, .int .i64 b3, .bool lg, va, vb, vg, .slice ca nc cc] 29
  have hb0 : Below w.heap.size w (w.alloc (.cells #[.int .i64 up, .int .i64 sc, .int .i64 de, .int .i64 ga, .int .i64 b0, .int .i64 b1, .int .i64 b2, .int .i64 b3, .bool lg, va, vb, vg, .slice ca nc cc] 29)) := (Below.refl _ _).alloc (Nat.le_refl _) _
  have H0 := hide (And.intro kb0 (And.intro (IRow.nil (w.alloc (.cells #[.int .i64 up, .int .i64 sc, .int .i64 de, .int .i64 ga, .int .i64 b0, .int .i64 b1, .int .i64 b2, .int .i64 b3, .bool lg, va, vb, vg, .slice ca nc cc] 29)) (w.heap.size + 1)) hb0))
  obtain ⟨F, hF⟩ : ∃ F, shF cs zs = F := ⟨_, rfl⟩
  have HF := hide hF
  clear hL hn hz hC hr kb0 hb0 hF
  go_enter Tryz.func21, Tryz.ntmps21
  go_wp2_with fail
  go_loopw [7, 8] (fun vo vi wr => ∃ k : Nat, vi = .int .i64 k ∧ Hid (k ≤ n ∧ Blk wr w.heap.size #[.int .i64 up, .int .i64 sc, .int .i64 de, .int .i64 ga, .int .i64 b0, .int .i64 b1, .int .i64 b2, .int .i64 b3, .bool lg, va, vb, vg, .slice ca nc cc] 29 ∧ IRow wr (w.heap.size + 1) vo ((List.range k).map F) ∧ Below w.heap.size w wr ∧ ∀ j, j < k → F j ≠ 0)) (fun _ vi _ => n - (intOf vi).toNat)
  case atStart => exact ⟨0, rfl, hide ⟨by omega, H0.out.1, H0.out.2.1, H0.out.2.2, fun j hj => by omega⟩⟩
  case round =>
    clear H0
    obtain ⟨k, rfl, HV⟩ := hrel
    obtain ⟨hk, hkb, hkg, hbw, hall⟩ := HV.out
    have hk0 : (0 : Int) ≤ (k : Int) := by omega
    clear HV
    by_cases hlt : k < n
    case neg =>
      obtain rfl : n = k := by omega
      have hlt' : ¬ (n : Int) < (n : Int) := by omega
      obtain ⟨ra, rc, hv, hl⟩ := hkg.lst
      rw [List.length_map, List.length_range] at hv
      subst hv
      have HE := hide (show ShQ w cs zs n (.returned (.tuple #[.slice ra n rc, .int .i64 0, .int .i64 0])) wr from ⟨hbw, Or.inr ⟨shI_none (fun j hj => by rw [HF.out]; exact hall j (by rw [← HN.out]; exact hj)), _, _, rfl, by rw [HF.out]; exact hl.1⟩⟩)
      clear hkb hkg hbw hall hk hlt hl
      go_wp2_with fail
      go_ret3
      exact HE.out
    have hlt' : (k : Int) < (n : Int) := by omega
    obtain ⟨b, o, rfl, hbl, hcell⟩ : ∃ b o, la = some ⟨b, o, none⟩ ∧ b < w.heap.size ∧ ∀ i, i < zs.length → w.cell? ⟨b, o + i, none⟩ = some (.int .i64 (zs.getD i 0)) := by
      rcases HL.out with hz' | h
      · have := HN.out
        rw [hz'] at this; simp at this; omega
      · exact h
    obtain ⟨z, hz⟩ : ∃ z, zs.getD k 0 = z := ⟨_, rfl⟩
    have c0 := hcell k (by rw [HN.out]; exact hlt)
    rw [← hbw.cell (p := ⟨b, o + k, none⟩) hbl, hz] at c0
    have hzr : C11.R64 z := by
      rw [← hz, List.getD_eq_getElem?_getD, List.getElem?_eq_getElem (by rw [HN.out]; exact hlt)]
      exact HZ.out _ (List.getElem_mem _)
    have hFk : C11.finV cs z = F k := by rw [← HF.out, ← hz]; rfl
    obtain ⟨fk, hfk⟩ : ∃ f, F k = f := ⟨_, rfl⟩
    have CFk : Hid (∀ x, Below wr.heap.size wr x → Calls Tryz.prog 56 #[.slice ca nc cc, .int .i64 z] x fun e w' => e = .returned (.int .i64 fk) ∧ w' = x) := hide fun x hx => by
      have := CF.out z x hzr (below_t5 hbw hx)
      rw [hFk, hfk] at this
      exact this
    have hblw : b < wr.heap.size := Nat.lt_of_lt_of_le hbl hbw.size
    have c12 := hkb.cell 12
    simp at c12
    have xlt := hkb.lt
    have HAP := hide (fun q => app_i1 (W := wr.drewN q) (B := w.heap.size + 1) fk (hkg.later (below_d (Below.refl _ _) (Below.refl _ _) rfl rfl rfl rfl)) (by show w.heap.size + 1 ≤ wr.heap.size; have := hkb.lt; omega) (by rw [List.length_map, List.length_range]; omega) wr.heap.size rfl)
    have HKB := hide hkb
    have HBW := hide hbw
    have HALL := hide hall
    have HFK := hide hfk
    clear hcell hkb hkg hbw hall hk hz hFk hfk hzr
    go_wp2_with fail
    go_quiet ((go_at_call 56; exact Calls.quiet_of_same (CFk.out _ (below_d (Below.refl _ _) (Below.refl _ _) rfl rfl rfl rfl))))
    by_cases hf0 : fk = 0
    · have hf1 : (fk == 0) = true := by simpa using hf0
      have HE := hide (show ∀ q, ShQ w cs zs n (.returned (.tuple #[.slice none 0 0, .int .i64 (k : Int), .int .i64 120])) (wr.drewN q) from fun q => ⟨below_d HBW.out (Below.refl _ _) rfl rfl rfl rfl, Or.inl ⟨k, shI_some (by rw [HN.out]; exact hlt) (by rw [HF.out, HFK.out]; exact hf0) (fun j hj => by rw [HF.out]; exact HALL.out j hj), hlt, rfl⟩⟩)
      clear hf0 hlt c0 c12 HAP
      go_wp2_with fail
      go_ret3
      exact HE.out _
    · have hf1 : (fk == 0) = false := by simpa using hf0
      have HA2 := hide (show ∀ j, j < k + 1 → F j ≠ 0 from fun j hj => by
        rcases Nat.lt_or_ge j k with h | h
        · exact HALL.out j h
        · rw [show j = k by omega, HFK.out]; exact hf0)
      clear hf0 c0 c12
      go_wp2_with (at_builtin; refine wpl_app_ex _ rfl _ _ _ _ rfl _ _ rfl rfl (HAP.out _) ?_; rintro v2 w2 ⟨hI2, _, _, _, hB2⟩; have HI2 := hide hI2; have HB2 := hide hB2; clear hI2 hB2)
      go_roundw
      case rel =>
        refine ⟨k + 1, by go_num, hide ⟨by omega, ?_, ?_, ?_, HA2.out⟩⟩
        · have := HKB.out
          unfold Blk at this ⊢
          rw [HB2.out.block w.heap.size (by omega)]
          exact this
        · rw [range_snoc, HFK.out]; exact HI2.out
        · exact (below_d HBW.out (Below.refl _ _) rfl rfl rfl rfl : Below w.heap.size w (wr.drewN _)).trans (HB2.out.mono (by omega))
      case measure => simp [intOf]; omega
set_option maxRecDepth 8000 in
set_option maxHeartbeats 4000000 in
theorem rlong_any (m : Mt) (aa : Option Addr) (na ka : Nat) (ab : Option Addr) (nb kb : Nat) (vg vc : Value) (la : Option Addr) (n c : Nat) (zs : List Int) (size : Int) (w : World) (hn : zs.length = n) (hm : n ≤ 100000) (hup : i64 m.up) (hx : ∀ x ∈ m.ad, i64 x) (hs : i64 size) (hna : m.ad.length = na) (hma : na ≤ 1000000) (hA : Lst w aa m.ad) (hL : Lst w la zs) :
    Calls Tryz.prog 23 #[.agg (fcs m (.slice aa na ka) (.slice ab nb kb) vg vc), .slice la n c, .int .i64 size] w fun e w' => e = .returned (lgV (lgF m.up m.ad size zs 0)) ∧ Below w.heap.size w w' := by
  have hm' : (n : Int) ≤ 100000 := by omega
  have CWd := hide (fun (g : Int) (u : World) (hu : Below w.heap.size w u) => rwd_any m aa ab na ka nb kb g size u hup hx hs hna hma (hA.below hu))
  have CAd := hide (fun (a b : Int) (u : World) => radd_any a b u)
  obtain ⟨R, hR⟩ : ∃ R, lgF m.up m.ad size zs 0 = R := ⟨_, rfl⟩
  rw [hR]
  obtain ⟨up, sc, de, ga, b0, b1, b2, b3, lg, ad, be⟩ := m
  simp only [mcs] at CWd
  simp only at hR
  have HL := hide hL
  have HN := hide hn
  have HR := hide hR
  clear hL hn hA hx hup hs hna hR
  have HB0 := hide ((Below.refl w.heap.size w).alloc (Nat.le_refl _) (.cells #[.int .i64 up, .int .i64 sc, .int .i64 de, .int .i64 ga, .int .i64 b0, .int .i64 b1, .int .i64 b2, .int .i64 b3, .bool lg, .slice aa na ka, .slice ab nb kb, vg, vc] 29))
  have HK0 := hide (Blk.new w #[.int .i64 up, .int .i64 sc, .int .i64 de, .int .i64 ga, .int .i64 b0, .int .i64 b1, .int .i64 b2, .int .i64 b3, .bool lg, .slice aa na ka, .slice ab nb kb, vg, vc] 29)
  go_enter Tryz.func23, Tryz.ntmps23
  go_wp2_with fail
  go_loopw [8, 9] (fun vs vi wr => ∃ (k : Nat) (s : Int), vi = .int .i64 k ∧ vs = .int .i64 s ∧ Hid (k ≤ n ∧ Blk wr w.heap.size #[.int .i64 up, .int .i64 sc, .int .i64 de, .int .i64 ga, .int .i64 b0, .int .i64 b1, .int .i64 b2, .int .i64 b3, .bool lg, .slice aa na ka, .slice ab nb kb, vg, vc] 29 ∧ Below w.heap.size w wr ∧ lgF up ad size (zs.drop k) s = R)) (fun _ vi _ => n - (intOf vi).toNat)
  case atStart => exact ⟨0, 0, rfl, rfl, hide ⟨by omega, HK0.out, HB0.out, by rw [List.drop_zero]; exact HR.out⟩⟩
  case round =>
    clear HB0 HK0 HR
    obtain ⟨k, s, rfl, rfl, HV⟩ := hrel
    obtain ⟨hk, hkb, hbw, hrr⟩ := HV.out
    have hk0 : (0 : Int) ≤ (k : Int) := by omega
    clear HV
    by_cases hlt : k < n
    case neg =>
      have hlt' : ¬ (k : Int) < (n : Int) := by omega
      rw [List.drop_eq_nil_of_le (by rw [HN.out]; omega), lgF] at hrr
      subst hrr
      have HB := hide hbw
      clear hkb hbw hk hlt
      go_wp2_with fail
      go_ret2
      exact ⟨rfl, HB.out⟩
    have hlt' : (k : Int) < (n : Int) := by omega
    obtain ⟨b, o, rfl, hbl, hcell⟩ : ∃ b o, la = some ⟨b, o, none⟩ ∧ b < w.heap.size ∧ ∀ i, i < zs.length → w.cell? ⟨b, o + i, none⟩ = some (.int .i64 (zs.getD i 0)) := by
      rcases HL.out with hz' | h
      · have := HN.out
        rw [hz'] at this; simp at this; omega
      · exact h
    obtain ⟨z, hz⟩ : ∃ z, zs.getD k 0 = z := ⟨_, rfl⟩
    have c0 := hcell k (by rw [HN.out]; exact hlt)
    rw [← hbw.cell (p := ⟨b, o + k, none⟩) hbl, hz] at c0
    rw [drop_zs zs k (by rw [HN.out]; exact hlt), hz, lgF] at hrr
    have hblw : b < wr.heap.size := Nat.lt_of_lt_of_le hbl hbw.size
    have e0 := hkb.cell 0
    have e1 := hkb.cell 1
    have e2 := hkb.cell 2
    have e3 := hkb.cell 3
    have e4 := hkb.cell 4
    have e5 := hkb.cell 5
    have e6 := hkb.cell 6
    have e7 := hkb.cell 7
    have e8 := hkb.cell 8
    have e9 := hkb.cell 9
    have e10 := hkb.cell 10
    simp at e0 e1 e2 e3 e4 e5 e6 e7 e8 e9 e10
    have xlt := hkb.lt
    have CW1 := hide (fun (x : World) (hx : Below wr.heap.size wr x) => CWd.out z x (below_t5 hbw hx))
    have KS : Hid (∀ x, Below wr.heap.size wr x → w.heap.size < x.heap.size ∧ x.cell? ⟨w.heap.size, 0, none⟩ = some (.int .i64 up) ∧ x.cell? ⟨w.heap.size, 1, none⟩ = some (.int .i64 sc) ∧ x.cell? ⟨w.heap.size, 2, none⟩ = some (.int .i64 de) ∧ x.cell? ⟨w.heap.size, 3, none⟩ = some (.int .i64 ga) ∧ x.cell? ⟨w.heap.size, 4, none⟩ = some (.int .i64 b0) ∧ x.cell? ⟨w.heap.size, 5, none⟩ = some (.int .i64 b1) ∧ x.cell? ⟨w.heap.size, 6, none⟩ = some (.int .i64 b2) ∧ x.cell? ⟨w.heap.size, 7, none⟩ = some (.int .i64 b3) ∧ x.cell? ⟨w.heap.size, 8, none⟩ = some (.bool lg) ∧ x.cell? ⟨w.heap.size, 9, none⟩ = some (.slice aa na ka) ∧ x.cell? ⟨w.heap.size, 10, none⟩ = some (.slice ab nb kb) ∧ b < x.heap.size ∧ x.cell? ⟨b, o + k, none⟩ = some (.int .i64 z)) := hide fun x hx => by
      have kx := hkb.below hx
      exact ⟨kx.lt, by simpa using kx.cell 0, by simpa using kx.cell 1, by simpa using kx.cell 2, by simpa using kx.cell 3, by simpa using kx.cell 4, by simpa using kx.cell 5, by simpa using kx.cell 6, by simpa using kx.cell 7, by simpa using kx.cell 8, by simpa using kx.cell 9, by simpa using kx.cell 10, Nat.lt_of_lt_of_le hblw hx.size, by rw [hx.cell (p := ⟨b, o + k, none⟩) hblw]; exact c0⟩
    have HX := hide (Below.refl wr.heap.size wr)
    obtain ⟨WI, hWI⟩ : ∃ W, wdI up ad z size = W := ⟨_, rfl⟩
    obtain ⟨WB, hWB⟩ : ∃ W, wdB up ad z size = W := ⟨_, rfl⟩
    rw [hWI, hWB] at hrr
    simp only [hWI, hWB] at CW1
    have HKB := hide hkb
    have HBW := hide hbw
    have HRR := hide hrr
    clear hcell hkb hbw hk hz hrr hWI hWB
    cases WB with
    | false =>
      have hRn : R = none := by rw [← HRR.out]; rfl
      subst hRn
      clear HRR
      clear c0 e0 e1 e2 e3 e4 e5 e6 e7 e8 e9 e10
      go_wp2_with fail
      go_region_held3 (fun x => w.heap.size < x.heap.size ∧ x.cell? ⟨w.heap.size, 0, none⟩ = some (.int .i64 up) ∧ x.cell? ⟨w.heap.size, 1, none⟩ = some (.int .i64 sc) ∧ x.cell? ⟨w.heap.size, 2, none⟩ = some (.int .i64 de) ∧ x.cell? ⟨w.heap.size, 3, none⟩ = some (.int .i64 ga) ∧ x.cell? ⟨w.heap.size, 4, none⟩ = some (.int .i64 b0) ∧ x.cell? ⟨w.heap.size, 5, none⟩ = some (.int .i64 b1) ∧ x.cell? ⟨w.heap.size, 6, none⟩ = some (.int .i64 b2) ∧ x.cell? ⟨w.heap.size, 7, none⟩ = some (.int .i64 b3) ∧ x.cell? ⟨w.heap.size, 8, none⟩ = some (.bool lg) ∧ x.cell? ⟨w.heap.size, 9, none⟩ = some (.slice aa na ka) ∧ x.cell? ⟨w.heap.size, 10, none⟩ = some (.slice ab nb kb) ∧ b < x.heap.size ∧ x.cell? ⟨b, o + k, none⟩ = some (.int .i64 z)) (exact KS.out _ (below_d HX.out (Below.refl _ _) rfl rfl rfl rfl)) ((first | (go_at_call 59; refine (CW1.out _ ?_).mono ?_; (exact below_d HX.out (Below.refl _ _) rfl rfl rfl rfl); rintro e wy ⟨rfl, hy⟩; replace HX := hide (below_d HX.out hy rfl rfl rfl rfl); clear hy)))
      have h1 := HX.out
      have HB1 := hide (below_t5 HBW.out h1)
      clear h1 HX KS CW1
      go_wp2_with fail
      go_ret2
      exact ⟨rfl, HB1.out⟩
    | true =>
      obtain ⟨SV, hSV⟩ : ∃ V, sumV s WI (s + WI) = V := ⟨_, rfl⟩
      obtain ⟨SB, hSB⟩ : ∃ V, sumB s WI (s + WI) = V := ⟨_, rfl⟩
      have hrr := HRR.out
      rw [hSV, hSB, if_pos rfl] at hrr
      have CA1 := hide (CAd.out s WI)
      simp only [hSV, hSB] at CA1
      clear HRR hSV hSB
      cases SB with
      | false =>
        have hRn : R = none := by rw [← hrr]; rfl
        subst hRn
        clear hrr
        clear c0 e0 e1 e2 e3 e4 e5 e6 e7 e8 e9 e10
        go_wp2_with fail
        go_region_held3 (fun x => w.heap.size < x.heap.size ∧ x.cell? ⟨w.heap.size, 0, none⟩ = some (.int .i64 up) ∧ x.cell? ⟨w.heap.size, 1, none⟩ = some (.int .i64 sc) ∧ x.cell? ⟨w.heap.size, 2, none⟩ = some (.int .i64 de) ∧ x.cell? ⟨w.heap.size, 3, none⟩ = some (.int .i64 ga) ∧ x.cell? ⟨w.heap.size, 4, none⟩ = some (.int .i64 b0) ∧ x.cell? ⟨w.heap.size, 5, none⟩ = some (.int .i64 b1) ∧ x.cell? ⟨w.heap.size, 6, none⟩ = some (.int .i64 b2) ∧ x.cell? ⟨w.heap.size, 7, none⟩ = some (.int .i64 b3) ∧ x.cell? ⟨w.heap.size, 8, none⟩ = some (.bool lg) ∧ x.cell? ⟨w.heap.size, 9, none⟩ = some (.slice aa na ka) ∧ x.cell? ⟨w.heap.size, 10, none⟩ = some (.slice ab nb kb) ∧ b < x.heap.size ∧ x.cell? ⟨b, o + k, none⟩ = some (.int .i64 z)) (exact KS.out _ (below_d HX.out (Below.refl _ _) rfl rfl rfl rfl)) ((first | (go_at_call 59; refine (CW1.out _ ?_).mono ?_; (exact below_d HX.out (Below.refl _ _) rfl rfl rfl rfl); rintro e wy ⟨rfl, hy⟩; replace HX := hide (below_d HX.out hy rfl rfl rfl rfl); clear hy)))
        have h1 := HX.out
        have HB1 := hide (below_t5 HBW.out h1)
        clear h1 HX KS CW1
        go_wp2_with fail
        refine (CA1.out _).mono ?_
        rintro e w2 ⟨rfl, hw2⟩
        replace hw2 := hw2.symm
        subst hw2
        go_wp2_with fail
        go_ret2
        exact ⟨rfl, HB1.out⟩
      | true =>
        rw [if_pos rfl] at hrr
        have HRR := hide hrr
        clear hrr
        clear c0 e0 e1 e2 e3 e4 e5 e6 e7 e8 e9 e10
        go_wp2_with fail
        go_region_held3 (fun x => w.heap.size < x.heap.size ∧ x.cell? ⟨w.heap.size, 0, none⟩ = some (.int .i64 up) ∧ x.cell? ⟨w.heap.size, 1, none⟩ = some (.int .i64 sc) ∧ x.cell? ⟨w.heap.size, 2, none⟩ = some (.int .i64 de) ∧ x.cell? ⟨w.heap.size, 3, none⟩ = some (.int .i64 ga) ∧ x.cell? ⟨w.heap.size, 4, none⟩ = some (.int .i64 b0) ∧ x.cell? ⟨w.heap.size, 5, none⟩ = some (.int .i64 b1) ∧ x.cell? ⟨w.heap.size, 6, none⟩ = some (.int .i64 b2) ∧ x.cell? ⟨w.heap.size, 7, none⟩ = some (.int .i64 b3) ∧ x.cell? ⟨w.heap.size, 8, none⟩ = some (.bool lg) ∧ x.cell? ⟨w.heap.size, 9, none⟩ = some (.slice aa na ka) ∧ x.cell? ⟨w.heap.size, 10, none⟩ = some (.slice ab nb kb) ∧ b < x.heap.size ∧ x.cell? ⟨b, o + k, none⟩ = some (.int .i64 z)) (exact KS.out _ (below_d HX.out (Below.refl _ _) rfl rfl rfl rfl)) ((first | (go_at_call 59; refine (CW1.out _ ?_).mono ?_; (exact below_d HX.out (Below.refl _ _) rfl rfl rfl rfl); rintro e wy ⟨rfl, hy⟩; replace HX := hide (below_d HX.out hy rfl rfl rfl rfl); clear hy)))
        have h1 := HX.out
        have HB1 := hide (And.intro (HKB.out.below h1) (below_t5 HBW.out h1))
        clear h1 HX KS CW1
        go_wp2_with fail
        refine (CA1.out _).mono ?_
        rintro e w2 ⟨rfl, hw2⟩
        replace hw2 := hw2.symm
        subst hw2
        go_wp2_with fail
        go_roundw
        case rel => exact ⟨k + 1, SV, by go_num, rfl, hide ⟨by omega, HB1.out.1, HB1.out.2, HRR.out⟩⟩
        case measure => simp [intOf]; omega
end Go.Proofs.YtpdfpbbamnhkfaaGreatDoor.F12
