/-
  What the landed Check, Points and Parts answer.
-/
import Derived.Test.YtjacjdglklcijaaDoorG10Lk
namespace Go.Proofs.YtjacjdglklcijaaDoor
open Go.RowKit Go.Deep
set_option linter.unusedVariables false
set_option linter.unusedSimpArgs false

def errV (R : Option (Nat × List Nat)) : Int := match R with | some _ => 0 | none => 100
def ptV (R : Option (Nat × List Nat)) : Int := match R with | some (p, _) => (p : Int) | none => 0
theorem below_alloc {w w1 : World} (h : Below w.heap.size w w1) (o : Obj) : Below w.heap.size w (w1.alloc o) := below_t5 h ((Below.refl _ _).alloc (Nat.le_refl _) _)
theorem check_any (s : ByteArray) (w : World) (hs : s.size ≤ 1000000) : Calls Tryd.prog 15 #[.string s] w fun e w' => e = .returned (.int .i64 (errV (shV s.data.toList))) ∧ Below w.heap.size w w' := by
  have C := look_any s w hs
  generalize shV s.data.toList = R at C ⊢
  rcases R with _ | ⟨p, ps⟩
  · have C := hide C
    go_enter Tryd.func15, Tryd.ntmps15
    go_wp2_with fail
    refine C.out.mono ?_
    rintro e w1 ⟨rfl, h1⟩
    have H1 := hide (below_alloc h1 (.cells #[.int .i64 0, .slice none 0 0] 49))
    clear h1
    go_wp2_with fail
    go_ret
    exact ⟨rfl, H1.out⟩
  · have C := hide C
    go_enter Tryd.func15, Tryd.ntmps15
    go_wp2_with fail
    refine C.out.mono ?_
    rintro e w1 ⟨v, rfl, q1, h1⟩
    obtain ⟨ad, cap, hv, _⟩ := q1.lst
    subst hv
    clear q1
    generalize (ints ps).length = LN
    have H1 := hide (below_alloc h1 (.cells #[.int .i64 (p : Int), .slice ad LN cap] 49))
    clear h1
    go_wp2_with fail
    go_ret
    exact ⟨rfl, H1.out⟩
theorem points_any (s : ByteArray) (w : World) (hs : s.size ≤ 1000000) : Calls Tryd.prog 11 #[.string s] w fun e w' => e = .returned (.tuple #[.int .i64 (ptV (shV s.data.toList)), .int .i64 (errV (shV s.data.toList))]) ∧ Below w.heap.size w w' := by
  have C := look_any s w hs
  generalize shV s.data.toList = R at C ⊢
  rcases R with _ | ⟨p, ps⟩
  · have C := hide C
    go_enter Tryd.func11, Tryd.ntmps11
    go_wp2_with fail
    refine C.out.mono ?_
    rintro e w1 ⟨rfl, h1⟩
    have H1 := hide (below_alloc h1 (.cells #[.int .i64 0, .slice none 0 0] 49))
    clear h1
    go_wp2_with fail
    go_ret2
    exact ⟨rfl, H1.out⟩
  · have C := hide C
    go_enter Tryd.func11, Tryd.ntmps11
    go_wp2_with fail
    refine C.out.mono ?_
    rintro e w1 ⟨v, rfl, q1, h1⟩
    obtain ⟨ad, cap, hv, _⟩ := q1.lst
    subst hv
    clear q1
    generalize (ints ps).length = LN
    have H1 := hide (below_alloc h1 (.cells #[.int .i64 (p : Int), .slice ad LN cap] 49))
    clear h1
    go_wp2_with fail
    go_ret2
    exact ⟨rfl, H1.out⟩
def prV (l : List UInt8) (ps : List Nat) : List Nat := ps.map (n2 l)
theorem prV_take (l : List UInt8) (ps : List Nat) (k : Nat) (h : k < ps.length) : prV l (ps.take (k + 1)) = prV l (ps.take k) ++ [n2 l (ps.getD k 0)] := by
  unfold prV
  rw [List.take_succ_eq_append_getElem h, List.map_append, List.getD_eq_getElem?_getD, List.getElem?_eq_getElem h]
  rfl
def PrR (w : World) (l : List UInt8) (R : Option (Nat × List Nat)) (e : Ending) (w' : World) : Prop := match R with
  | some (_, ps) => ∃ v, e = .returned (.tuple #[v, .int .i64 0]) ∧ IRow w' w.heap.size v (ints (prV l ps)) ∧ Below w.heap.size w w'
  | none => e = .returned (.tuple #[.slice none 0 0, .int .i64 100]) ∧ Below w.heap.size w w'
theorem ints_at (ps : List Nat) (k : Nat) (h : k < ps.length) : (ints ps).getD k 0 = ((ps.getD k 0 : Nat) : Int) := by
  unfold ints
  rw [List.getD_eq_getElem?_getD, List.getD_eq_getElem?_getD, List.getElem?_map, List.getElem?_eq_getElem h]
  rfl
set_option maxRecDepth 8000 in
set_option maxHeartbeats 2000000 in
theorem parts_any (s : ByteArray) (w : World) (hs : s.size ≤ 1000000) : Calls Tryd.prog 12 #[.string s] w (PrR w s.data.toList (shV s.data.toList)) := by
  have C := look_any s w hs
  have hbd : ∀ p ps, shV s.data.toList = some (p, ps) → (∀ x ∈ ps, x + 2 ≤ s.size) ∧ ps.length ≤ 64 := fun p ps h => by
    have := shV_bd h
    rw [← Lib.size_eq] at this
    exact this.2
  generalize shV s.data.toList = R at C hbd ⊢
  rcases R with _ | ⟨p, ps⟩
  · have C := hide C
    clear hbd
    go_enter Tryd.func12, Tryd.ntmps12
    go_wp2_with fail
    refine C.out.mono ?_
    rintro e w1 ⟨rfl, h1⟩
    have H1 := hide (below_alloc h1 (.cells #[.int .i64 0, .slice none 0 0] 49))
    clear h1
    go_wp2_with fail
    go_loop [6, 17] (fun a i => a = .slice none 0 0 ∧ i = .int .i64 0) (fun _ _ => 0)
    case atStart => exact ⟨rfl, rfl⟩
    case round =>
      obtain ⟨rfl, rfl⟩ := hrel
      go_wp2_with fail
      go_ret2
      exact ⟨rfl, H1.out⟩
  · have C := hide C
    obtain ⟨hx, hl⟩ := hbd p ps rfl
    clear hbd
    have HX := hide hx
    have hs' : (s.size : Int) ≤ 1000000 := by omega
    go_enter Tryd.func12, Tryd.ntmps12
    go_wp2_with fail
    refine C.out.mono ?_
    rintro e w1 ⟨v, rfl, q1, h1⟩
    obtain ⟨ad, cap, hv, hL, hc1, hc2⟩ := q1.lst
    subst hv
    rw [ints_len] at hc1 ⊢
    have hcap : (ps.length : Int) ≤ (cap : Int) := by omega
    have hll : (ps.length : Int) ≤ 64 := by omega
    have hb := (Below.refl w1.heap.size w1).alloc (Nat.le_refl _) (.cells #[.int .i64 (p : Int), .slice ad ps.length cap] 49)
    have H1 := hide (below_alloc h1 (.cells #[.int .i64 (p : Int), .slice ad ps.length cap] 49))
    have H2 := hide (hL.below hb)
    have HLN : Hid (ps.length = ps.length) := hide rfl
    clear h1 q1 hL hb hc1 hc2 hx C
    go_wp2_with fail
    generalize w1.alloc (.cells #[.int .i64 (p : Int), .slice ad ps.length cap] 49) = V at H1 H2 ⊢
    go_loopw [6, 17] (fun a i wr => ∃ k : Nat, i = .int .i64 (k : Int) ∧ Hid (k ≤ ps.length ∧ IRow wr V.heap.size a (ints (prV s.data.toList (ps.take k))) ∧ Below V.heap.size V wr)) (fun _ i _ => ps.length - (intOf i).toNat)
    case atStart => exact ⟨0, rfl, hide ⟨by omega, IRow.nil _ _, Below.refl _ _⟩⟩
    case round =>
      obtain ⟨k, rfl, HV⟩ := hrel
      obtain ⟨k1, k2, k3⟩ := HV.out
      have hk0 : (0 : Int) ≤ (k : Int) := by omega
      clear HV
      by_cases hlt : k < ps.length
      · have hlt' : (k : Int) < (ps.length : Int) := by omega
        have K2 := hide k2
        have K3 := hide k3
        obtain ⟨ad', cap', hv, _, h64, _⟩ := k2.lst
        rcases (H2.out.below k3) with hz | ⟨b, o, rfl, hb, hcell⟩
        · have := ints_len ps; rw [hz] at this; simp at this; omega
        have hc := hcell k (by rw [ints_len]; omega)
        rw [ints_at ps k hlt] at hc
        have hP : ps.getD k 0 + 2 ≤ s.size := by
          have hm : ps.getD k 0 ∈ ps := by
            rw [List.getD_eq_getElem?_getD, List.getElem?_eq_getElem hlt]
            exact List.getElem_mem hlt
          exact HX.out _ hm
        have HS := hide (prV_take s.data.toList ps k hlt)
        have CN := hide (fun w => num_any (s.extract (ps.getD k 0) (ps.getD k 0 + 2)) w (by rw [ext_size s _ 2 hP]; omega))
        rw [ext2 s _ hP] at CN
        have hlen : (ints (prV s.data.toList (ps.take k))).length ≤ 64 := by rw [ints_len]; unfold prV; simp; omega
        obtain ⟨v', w2, hr, r1, r2, r3, r4, r5⟩ := app_i1 ((n2 s.data.toList (ps.getD k 0) : Nat) : Int) k2 k3.size (by omega) wr.heap.size rfl
        have HRU := hide hr
        have H5 : Hid (IRow w2 V.heap.size v' (ints (prV s.data.toList (ps.take (k + 1))))) := hide (by rw [HS.out, ints_snoc]; exact r1)
        have H6 := hide (k3.trans r5)
        have n0 : (0 : Int) ≤ ((ps.getD k 0 : Nat) : Int) := by omega
        have n1 : ((ps.getD k 0 : Nat) : Int) + 2 ≤ (s.size : Int) := by omega
        have n2' : ((ps.getD k 0 : Nat) : Int) ≤ ((ps.getD k 0 : Nat) : Int) + 2 := by omega
        have n3 : (((ps.getD k 0 : Nat) : Int) + 2).toNat = ps.getD k 0 + 2 := by omega
        generalize ps.getD k 0 = P at hc CN HRU n0 n1 n2' n3
        clear hr r1 r2 r3 r4 r5 hcell k2 k3 hP hlen HS hv
        go_wp2_with fail
        refine (CN.out _).mono ?_
        rintro e wy ⟨rfl, hy⟩
        subst wy
        go_wp2_with (at_builtin; refine Lib.wpList_append_run _ rfl _ _ _ _ rfl _ _ rfl rfl _ _ HRU.out ?_)
        go_roundw
        case rel => exact ⟨k + 1, by go_num, hide ⟨by omega, H5.out, H6.out⟩⟩
        case measure => simp [intOf]; omega
      · have hlt' : ¬ (k : Int) < (ps.length : Int) := by omega
        have E := hide (show ps.take k = ps from List.take_of_length_le (by omega))
        have K2 := hide k2
        have K3 := hide k3
        clear k2 k3
        go_wp2_with fail
        go_ret2
        refine ⟨_, rfl, ?_, below_t5 H1.out K3.out⟩
        have := K2.out
        rw [E.out] at this
        exact this.lower H1.out.size
end Go.Proofs.YtjacjdglklcijaaDoor
