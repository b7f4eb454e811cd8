/-
  Joined: F12C, F12D, F12Rb, F12Ra.
-/
import Derived.Lib.MinMax
import Derived.Lib.SlBuf
import Derived.Test.YthnpnkiomknkeaaDoorC03
import Derived.Test.YthnpnkiomknkeaaDoorC11
import Derived.Test.YthnpnkiomknkeaaDoorC13
import Derived.Test.YthnpnkiomknkeaaDoorC14
namespace Go.Proofs.YthnpnkiomknkeaaDoor.F12
open Go.RowKit Go.Deep
set_option linter.unusedVariables false
set_option linter.unusedSimpArgs false
section
variable {P : Program} {md : Region.Mode} {ops : Array Oper} {Q : Exit → Act → World → Prop} {S : World → Prop}
theorem takeW {i d : Nat} {oi : Oper} {v : Value} {fuel : Nat} {listed : Array Bool} {a : Act} {w : World} (hi : ops[i]? = some oi) (hd : oi.dst = some d)
    (hs : Region.noSelect ops = true) (hf : Region.free md ops listed i = true) (hr : (Region.ready md ops listed).contains i = true)
    (hQ : ∀ c a w, Q (.panic c) (a.put (some d) v) w → Q (.panic c) a w) (hw : Region.wanted oi (yielded ops a.tmps) = true) (hy : ∀ w, S w → (execOp a.eval oi).run P w = .ok (.value v) w) (hS : S w)
    (h : wpAnyH P md ops Q S fuel (listed.setIfInBounds i true) (a.put (some d) v) w) : wpAnyH P md ops Q S (fuel + 1) listed a w :=
  wpAnyH_take hi hs hf hr (by rw [hd]; exact hQ) (Or.inl ⟨hw, hy⟩) hS (by rw [hd]; exact h)
end
theorem info_bool : (Tryd.prog.info? 4).map (fun i => (i.zero, i.size, i.bytes)) = some (some (.bool false), 1, 1) := by kernel_rfl
theorem make_bools (n : Nat) (hn : n ≤ 100000) (x : World) : (Instr.makeSlice 53 (.int .i64 (n : Int)) (.int .i64 (n : Int))).run Tryd.prog x = .ok (.slice (some ⟨x.heap.size, 0, none⟩) n n) (x.alloc (.cells (Array.replicate n (.bool false)) 4)) := by
  obtain ⟨i0, hi, hz0, hz1, hz2⟩ := info_parts5 info_bool
  have h := run_make (P := Tryd.prog) x 53 4 i0 (.bool false) Tryd.underlying53 hi hz0 .i64 .i64 n n (by omega) (Int.le_refl _) (by rw [hz2]; omega) (by omega)
  rw [hz1] at h
  simp only [Int.toNat_natCast, Nat.mul_one] at h
  have e : madeCells (Value.bool false).cells n = Array.replicate n (.bool false) := by
    apply Array.ext (by simp [madeCells])
    intro j h1 h2
    simp [madeCells, Value.cells, Nat.mod_one]
  rw [e] at h
  exact h
theorem bls_zero (f : Nat → Bool) (n : Nat) : bls f n 0 = Array.replicate n (.bool false) := G10.arw_zero _ _ _
theorem bls_size (f : Nat → Bool) (n k : Nat) : (bls f n k).size = n := G10.arw_size _ _ _ _
theorem bls_set (f : Nat → Bool) (n k : Nat) (h : k < n) : (bls f n k).setIfInBounds k (.bool (f k)) = bls f n (k + 1) := G10.arw_set (fun i => .bool (f i)) _ _ _ h
abbrev yes : Nat → Bool := fun _ => true
theorem yes_app (n k j : Nat) (h : k + j ≤ n) : ((bls yes n k).toList.take k ++ List.replicate j (Value.bool true) ++ (bls yes n k).toList.drop (k + j)).toArray = bls yes n (k + j) := by
  apply Array.ext_getElem?
  intro i
  have hl : (bls yes n k).toList.length = n := by rw [Array.length_toList, bls_size]
  rw [List.getElem?_toArray, List.getElem?_append, List.getElem?_append, List.length_append, List.length_take, List.length_replicate, hl, Nat.min_eq_left (by omega)]
  by_cases hi : i < n
  · rw [bls_at _ _ _ _ hi]
    by_cases h1 : i < k
    · rw [if_pos (by omega), if_pos h1, List.getElem?_take_of_lt h1, Array.getElem?_toList, bls_at _ _ _ _ hi, if_pos h1, if_pos (by omega)]
    · by_cases h2 : i < k + j
      · rw [if_pos h2, if_neg h1, List.getElem?_replicate, if_pos (by omega), if_pos h2]
      · rw [if_neg h2, List.getElem?_drop, Array.getElem?_toList, show k + j + (i - (k + j)) = i by omega, bls_at _ _ _ _ hi, if_neg h1, if_neg h2]
  · rw [if_neg (by omega), List.getElem?_drop, Array.getElem?_toList, Array.getElem?_eq_none (by rw [bls_size]; omega), Array.getElem?_eq_none (by rw [bls_size]; omega)]
theorem yes_copy {w : World} {g n k c1 c2 : Nat} (hb : Blk w g (bls yes n k) 4) (hk : k ≤ n) (sa : Addr) (sl : Nat) (hs : ∀ j, j < sl → w.cell? (sa.add j) = some (.bool true)) :
    ∃ w2, (Builtin.copy_ #[53, 53] 3 #[.slice (some ⟨g, k, none⟩) (n - k) c1, .slice (some sa) sl c2]).run Tryd.prog w = .ok (.int .i64 ((min sl (n - k) : Nat) : Int)) w2 ∧ Blk w2 g (bls yes n (k + min sl (n - k))) 4 ∧ Below g w w2 := by
  obtain ⟨i0, hi, hz0, hz1, hz2⟩ := info_parts5 info_bool
  have hr := run_copy_row (P := Tryd.prog) w 53 53 3 4 g k (n - k) c1 sa sl c2 (bls yes n k) 4 (List.replicate (min sl (n - k)) (.bool true)) Tryd.underlying53 (by rw [hi]; simp [hz1]) hb (by rw [List.length_replicate])
    (fun j v hv => by
      rw [List.getElem?_replicate] at hv
      split at hv
      · rename_i hj
        rw [← Option.some.inj hv]
        exact hs j (by omega)
      · cases hv) (by rw [List.length_replicate, bls_size]; omega) (fun v hv => by rw [List.eq_of_mem_replicate hv]; rfl)
  rw [List.length_replicate, yes_app n k _ (by omega)] at hr
  refine ⟨_, hr, setRow_heap _ _ _ _ _ _ hb, ⟨rfl, rfl, rfl, by simp, fun j hj => setRow_other _ _ _ _ (by omega)⟩⟩
set_option maxRecDepth 100000 in
theorem mul_one (n : Nat) (w : World) (hn : n ≤ 1000000) : Calls Tryd.prog 60 #[.int .u64 1, .int .u64 (n : Int)] w fun e w' => e = .returned (.tuple #[.int .u64 0, .int .u64 (n : Int)]) ∧ w' = w := by
  have C := hide (show Calls Tryd.prog 76 #[.int .u64 1, .int .u64 (n : Int)] w fun e w' => e = .returned (.tuple #[.int .u64 0, .int .u64 (n : Int)]) ∧ w' = w by
    have h := mul64_any 1 n (by decide +kernel) (Nat.lt_of_le_of_lt hn (by decide +kernel)) w
    obtain ⟨D, hD⟩ : ∃ D, D = 1 * n / 18446744073709551616 := ⟨_, rfl⟩
    obtain ⟨M, hM⟩ : ∃ M, M = 1 * n % 18446744073709551616 := ⟨_, rfl⟩
    rw [← hD, ← hM] at h
    have eD : D = 0 := by rw [hD]; exact Nat.div_eq_of_lt (by omega)
    have eM : M = n := by rw [hM, Nat.one_mul]; exact Nat.mod_eq_of_lt (by omega)
    subst eD eM
    exact h)
  have hn' : (n : Int) ≤ 1000000 := by omega
  go_enter Tryd.func60, Tryd.ntmps60
  go_wp2_with fail
  refine C.out.mono ?_
  rintro e w' ⟨rfl, hw'⟩
  replace hw' := hw'.symm
  subst hw'
  go_wp2_with fail
  go_ret2
  exact ⟨rfl, rfl⟩
set_option maxRecDepth 8000 in
set_option maxHeartbeats 2000000 in
theorem repeat_any (x n c : Nat) (w : World) (h1 : 1 ≤ n) (hn : n ≤ 4096) (hx : w.cell? ⟨x, 0, none⟩ = some (.bool true)) (hxl : x < w.heap.size) :
    Calls Tryd.prog 47 #[.slice (some ⟨x, 0, none⟩) 1 c, .int .i64 (n : Int)] w fun e w' => e = .returned (.slice (some ⟨w.heap.size, 0, none⟩) n n) ∧ Blk w' w.heap.size (bls yes n n) 4 ∧ Below w.heap.size w w' := by
  have CM := hide (mul_one n w (by omega))
  have MK := make_bools n (by omega)
  have hn' : (n : Int) ≤ 4096 := by omega
  have hn0 : ¬ (n : Int) < 0 := by omega
  have hn1 : (1 : Int) ≤ (n : Int) := by omega
  have k0 : Blk (w.alloc (.cells (Array.replicate n (.bool false)) 4)) w.heap.size (bls yes n 0) 4 := by rw [bls_zero]; exact Blk.new w _ _
  have b0 : Below w.heap.size w (w.alloc (.cells (Array.replicate n (.bool false)) 4)) := (Below.refl _ _).alloc (Nat.le_refl _) _
  obtain ⟨w2, hcp, k2, b2⟩ := yes_copy (c1 := n) (c2 := c) k0 (by omega) ⟨x, 0, none⟩ 1 (fun j hj => by
    obtain rfl : j = 0 := by omega
    rw [Go.WideShapes.add_plain, b0.cell (p := ⟨x, 0 + 0, none⟩) hxl]
    exact hx)
  rw [Nat.sub_zero, show min 1 n = 1 by omega, Nat.zero_add] at *
  have HCP := hide hcp
  have HK2 := hide k2
  have HB2 := hide (b0.trans b2)
  obtain ⟨gb, hgb⟩ : ∃ g, w.heap.size = g := ⟨_, rfl⟩
  have HGB := hide hgb
  clear hcp k2 b2 k0 b0 hx hxl
  rw [hgb] at HCP HK2 ⊢
  go_enter Tryd.func47, Tryd.ntmps47
  go_wp2_with (go_at_call 60; refine CM.out.mono ?_; rintro e w' ⟨rfl, hw'⟩; replace hw' := hw'.symm; subst hw')
  rw [HCP.out]
  simp only [Result.andThen]
  rw [Oper.upon_value]
  go_wp2_with fail
  go_loopw [8] (fun vk wr => ∃ k : Nat, vk = .int .i64 (k : Int) ∧ Hid (1 ≤ k ∧ k ≤ n ∧ Blk wr gb (bls yes n k) 4 ∧ Below w.heap.size w wr)) (fun vk _ => n - (intOf vk).toNat)
  case atStart => exact ⟨1, rfl, hide ⟨by omega, by omega, HK2.out, HB2.out⟩⟩
  case round =>
    clear HCP HK2 HB2 MK
    obtain ⟨k, rfl, HV⟩ := hrel
    obtain ⟨hk1, hk, hkb, hbw⟩ := HV.out
    have hk0 : (0 : Int) ≤ (k : Int) := by omega
    clear HV
    by_cases hlt : k < n
    case neg =>
      obtain rfl : n = k := by omega
      have hlt' : ¬ (n : Int) < (n : Int) := by omega
      have HE := hide (And.intro hkb hbw)
      clear hkb hbw hk hk1 hlt
      go_wp2_with fail
      go_ret
      exact ⟨rfl, HE.out.1, by have h9 := HE.out.2; rwa [HGB.out] at h9⟩
    have hlt' : (k : Int) < (n : Int) := by omega
    obtain ⟨w3, hcp, k3, b3⟩ := yes_copy (w := wr.drew) (c1 := n - k) (c2 := n) hkb hk ⟨gb, 0, none⟩ k (fun j hj => by
      rw [Go.WideShapes.add_plain, Nat.zero_add]
      have := hkb.cell j
      rw [bls_at _ _ _ _ (by omega), if_pos hj] at this
      exact this)
    obtain ⟨M, hM⟩ : ∃ M, min k (n - k) = M := ⟨_, rfl⟩
    rw [hM] at hcp k3
    have hM1 : 1 ≤ M := by omega
    have hM2 : k + M ≤ n := by omega
    have hMi : (k : Int) + (M : Int) ≤ (n : Int) := by omega
    have HCP := hide hcp
    have HK3 := hide k3
    have HB3 := hide (hbw.trans ((show Below gb wr w3 from ⟨b3.os, b3.tape, b3.output, b3.size, b3.block⟩).mono (Nat.le_of_eq HGB.out)))
    clear hcp k3 b3 hkb hbw hM
    go_wp2_with fail
    refine wp_region_held_drew (S := (fun _ => True)) (by kernel_rfl) trivial (fun _ => ?_)
    refine takeW (i := 0) (d := 38) (v := .int .i64 (k : Int)) rfl rfl (by kernel_rfl) (by kernel_rfl) (by kernel_rfl) (fun _ _ _ h => h) (by rfl) ?_ trivial ?_
    · intro x9 _
      go_simp
    simp only [Act.put, List.setIfInBounds_toArray, List.set_cons_zero, List.set_cons_succ]
    refine takeW (i := 1) (d := 39) (v := .slice (some ⟨gb, 0, none⟩) n n) rfl rfl (by kernel_rfl) (by kernel_rfl) (by kernel_rfl) (fun _ _ _ h => h) (by rfl) ?_ trivial ?_
    · intro x9 _
      go_simp
    simp only [Act.put, List.setIfInBounds_toArray, List.set_cons_zero, List.set_cons_succ]
    refine takeW (i := 2) (d := 40) (v := .int .i64 (k : Int)) rfl rfl (by kernel_rfl) (by kernel_rfl) (by kernel_rfl) (fun _ _ _ h => h) (by rfl) ?_ trivial ?_
    · intro x9 _
      go_simp
    simp only [Act.put, List.setIfInBounds_toArray, List.set_cons_zero, List.set_cons_succ]
    refine takeW (i := 3) (d := 41) (v := .slice (some ⟨gb, k, none⟩) (n - k) (n - k)) rfl rfl (by kernel_rfl) (by kernel_rfl) (by kernel_rfl) (fun _ _ _ h => h) (by rfl) ?_ trivial ?_
    · intro x9 _
      go_simp
      omega
    simp only [Act.put, List.setIfInBounds_toArray, List.set_cons_zero, List.set_cons_succ]
    refine takeW (i := 4) (d := 42) (v := .slice (some ⟨gb, 0, none⟩) n n) rfl rfl (by kernel_rfl) (by kernel_rfl) (by kernel_rfl) (fun _ _ _ h => h) (by rfl) ?_ trivial ?_
    · intro x9 _
      go_simp
    simp only [Act.put, List.setIfInBounds_toArray, List.set_cons_zero, List.set_cons_succ]
    refine takeW (i := 5) (d := 43) (v := .int .i64 (k : Int)) rfl rfl (by kernel_rfl) (by kernel_rfl) (by kernel_rfl) (fun _ _ _ h => h) (by rfl) ?_ trivial ?_
    · intro x9 _
      go_simp
    simp only [Act.put, List.setIfInBounds_toArray, List.set_cons_zero, List.set_cons_succ]
    refine takeW (i := 6) (d := 44) (v := .slice (some ⟨gb, 0, none⟩) k n) rfl rfl (by kernel_rfl) (by kernel_rfl) (by kernel_rfl) (fun _ _ _ h => h) (by rfl) ?_ trivial ?_
    · intro x9 _
      go_simp
    simp only [Act.put, List.setIfInBounds_toArray, List.set_cons_zero, List.set_cons_succ]
    refine wpAnyH_ready (rs := [7]) (by kernel_rfl) (by simp) ?_
    refine AllReadyH.cons rfl (fun K hK => ?_) AllReadyH.nil
    rw [if_pos (by rfl)]
    refine Lib.wp_copy_run _ _ _ _ _ rfl _ _ rfl rfl HCP.out ?_
    refine hK.out _ _ trivial (fun _ => ?_)
    simp only [List.getElem_toArray, List.getElem_cons_succ, List.getElem_cons_zero, Act.put, List.setIfInBounds_toArray, List.set_cons_zero, List.set_cons_succ]
    clear hK K
    refine takeW (i := 8) (d := 46) (v := .int .i64 ((k + M : Nat) : Int)) rfl rfl (by kernel_rfl) (by kernel_rfl) (by kernel_rfl) (fun _ _ _ h => h) (by rfl) ?_ trivial ?_
    · intro x9 _
      go_simp
      rw [IntKind.wrap_i64]; omega
    simp only [Act.put, List.setIfInBounds_toArray, List.set_cons_zero, List.set_cons_succ]
    refine takeW (i := 9) (d := 8) (v := .int .i64 ((k + M : Nat) : Int)) rfl rfl (by kernel_rfl) (by kernel_rfl) (by kernel_rfl) (fun _ _ _ h => h) (by rfl) ?_ trivial ?_
    · intro x9 _
      go_simp
    simp only [Act.put, List.setIfInBounds_toArray, List.set_cons_zero, List.set_cons_succ]
    refine wpAnyH_done (by kernel_rfl) ?_ _
    go_wp2_with fail
    go_roundw
    case rel => exact ⟨k + M, by go_num, hide ⟨by omega, hM2, HK3.out, HB3.out⟩⟩
    case measure => simp [intOf]; omega
def PLst (w : World) (a : Option Addr) (pss : List (List Nat)) : Prop := pss = [] ∨ ∃ b o, a = some ⟨b, o, none⟩ ∧ b < w.heap.size ∧ ∀ i ps, pss[i]? = some ps → ∃ pa c, w.cell? ⟨b, o + i, none⟩ = some (.slice pa ps.length c) ∧ Lst w pa (G10.ints ps)
def dpV (pss : List (List Nat)) : Nat → Nat → Bool
  | 0, _ => true
  | k + 1, i => (pss.getD i []).any (dpV pss k)
def deepB (pss : List (List Nat)) : Bool := (List.range pss.length).any (dpV pss 9)
set_option maxRecDepth 8000 in
set_option maxHeartbeats 4000000 in
theorem tooDeep_any (a : Option Addr) (n c : Nat) (pss : List (List Nat)) (w : World) (hn : pss.length = n) (h1 : 1 ≤ n) (h2 : n ≤ 4096) (hp : ∀ ps ∈ pss, ps.length ≤ 1000000 ∧ ∀ p ∈ ps, p < n) (hL : PLst w a pss) :
    Calls Tryd.prog 35 #[.slice a n c] w fun e w' => e = .returned (.bool (deepB pss)) ∧ Below w.heap.size w w' := by
  have h2' : (n : Int) ≤ 4096 := by omega
  have h1' : (1 : Int) ≤ (n : Int) := by omega
  obtain ⟨R, hR⟩ : ∃ R, deepB pss = R := ⟨_, rfl⟩
  rw [hR]
  have HR := hide hR
  have HN := hide hn
  have HP := hide hp
  have H12 := hide (And.intro h1 h2)
  have HL := hide hL
  have MK := make_bools n (by omega)
  have k0 := Blk.new w #[.bool true] 4
  have b0 := (Below.refl w.heap.size w).alloc (Nat.le_refl _) (.cells #[.bool true] 4)
  have CR := hide (repeat_any w.heap.size n 1 (w.alloc (.cells #[.bool true] 4)) h1 h2 (k0.cell 0) k0.lt)
  have HB0 := hide b0
  clear hL hn hp h1 h2 hR k0 b0
  go_enter Tryd.func35, Tryd.ntmps35
  go_wp2_with fail
  generalize w.alloc (.cells #[.bool true] 4) = V0 at CR HB0 ⊢
  refine CR.out.mono ?_
  rintro e w1 ⟨rfl, hkg, h1⟩
  have kb1 := Blk.new w1 #[.slice (some ⟨V0.heap.size, 0, none⟩) n n] 53
  have bb1 := (Below.refl w1.heap.size w1).alloc (Nat.le_refl _) (.cells #[.slice (some ⟨V0.heap.size, 0, none⟩) n n] 53)
  have HS0 := hide (And.intro kb1 (And.intro (hkg.below bb1) (below_t5 (below_t5 HB0.out h1) bb1)))
  have hbx : w.heap.size ≤ w1.heap.size := (below_t5 HB0.out h1).size
  obtain ⟨bx, hbxe⟩ : ∃ b, w1.heap.size = b := ⟨_, rfl⟩
  have HBX := hide (And.intro hbx hbxe)
  have hty : ∀ {W : World} {b g : Nat} {cs ds : Array Value}, Blk W b cs 53 → Blk W g ds 4 → b ≠ g := fun {W b g cs ds} h h' e => by
    subst e
    unfold Blk at h h'
    rw [h] at h'
    injection h' with h'
    injection h' with _ h' _
    exact absurd h' (by decide)
  have HTY := hide (show ∀ (W : World) (b g : Nat) (cs ds : Array Value), Blk W b cs 53 → Blk W g ds 4 → b ≠ g from fun W b g cs ds h h' => hty h h')
  clear hty hkg h1 kb1 bb1 hbx
  go_wp2_with fail
  rw [hbxe] at HS0
  try rw [hbxe]
  clear hbxe
  go_loopw [11] (fun vi wr => ∃ k : Nat, vi = .int .i64 (k : Int) ∧ Hid (k ≤ 9 ∧ ∃ g, Blk wr bx #[.slice (some ⟨g, 0, none⟩) n n] 53 ∧ Blk wr g (bls (dpV pss k) n n) 4 ∧ Below w.heap.size w wr)) (fun vi _ => 9 - (intOf vi).toNat)
  case atStart => exact ⟨0, rfl, hide ⟨by omega, V0.heap.size, HS0.out.1, HS0.out.2.1, HS0.out.2.2⟩⟩
  case round =>
    clear HS0
    obtain ⟨k, rfl, HV⟩ := hrel
    obtain ⟨hk, g, hkb, hkg, hbw⟩ := HV.out
    have hk0 : (0 : Int) ≤ (k : Int) := by omega
    clear HV
    have c0 := hkb.cell 0
    simp at c0
    have blt := hkb.lt
    by_cases hlt : k < 9
    case neg =>
      obtain rfl : k = 9 := by omega
      have CC := hide (contains_any g n n (dpV pss 9) wr (by have := H12.out; omega) hkg)
      have E := hide (show (List.range n).any (dpV pss 9) = R by rw [← HR.out, ← HN.out]; rfl)
      rw [E.out] at CC
      have HB := hide hbw
      have hlt' : ¬ ((9 : Nat) : Int) < 9 := by omega
      clear hkb hkg hbw hk hlt MK
      go_wp2_with (go_at_call 50; refine CC.out.mono ?_; rintro e w2 ⟨rfl, hw2⟩; replace hw2 := hw2.symm; subst hw2)
      go_ret
      exact ⟨rfl, HB.out⟩
    have hlt' : (k : Int) < 9 := by omega
    have bn := (Below.refl wr.heap.size wr).alloc (Nat.le_refl _) (.cells (Array.replicate n (.bool false)) 4)
    have kn : Blk (wr.alloc (.cells (Array.replicate n (.bool false)) 4)) wr.heap.size (bls (dpV pss (k + 1)) n 0) 4 := by rw [bls_zero]; exact Blk.new wr _ _
    have HI := hide (And.intro (hkb.below bn) (And.intro (hkg.below bn) (And.intro kn (hbw.trans (bn.mono hbw.size)))))
    have hxn : bx ≠ wr.heap.size := by omega
    have hwn : w.heap.size ≤ wr.heap.size := hbw.size
    obtain ⟨gn, hgn⟩ : ∃ g, wr.heap.size = g := ⟨_, rfl⟩
    have HGN := hide (And.intro hxn (And.intro hwn hgn))
    have hglt := hkg.lt
    have HGL := hide (show g ≠ wr.heap.size by omega)
    clear hkb hkg hbw hk hlt bn kn hxn hwn hglt
    go_wp2_with fail
    rw [hgn] at HI HGL
    try rw [hgn]
    clear hgn c0 blt
    go_loopw [18] (fun vi wq => ∃ i : Nat, vi = .int .i64 (i : Int) ∧ Hid (i ≤ n ∧ Blk wq bx #[.slice (some ⟨g, 0, none⟩) n n] 53 ∧ Blk wq g (bls (dpV pss k) n n) 4 ∧ Blk wq gn (bls (dpV pss (k + 1)) n i) 4 ∧ Below w.heap.size w wq)) (fun vi _ => n - (intOf vi).toNat)
    case atStart => exact ⟨0, rfl, hide ⟨by omega, HI.out.1, HI.out.2.1, HI.out.2.2.1, HI.out.2.2.2⟩⟩
    case round =>
      clear HI MK
      obtain ⟨i, rfl, HV⟩ := hrel
      obtain ⟨hi, hkb, hkg, hkn, hbw⟩ := HV.out
      have hi0 : (0 : Int) ≤ (i : Int) := by omega
      clear HV
      have blt := hkb.lt
      have nlt := hkn.lt
      by_cases hin : i < n
      case neg =>
        obtain rfl : n = i := by omega
        have hin' : ¬ (n : Int) < (n : Int) := by omega
        have c0 := hkb.cell 0
        simp at c0
        have f0 := hkb.frozen 0
        have HE := hide (show Blk (wr.setCell ⟨bx, 0, none⟩ (.slice (some ⟨gn, 0, none⟩) n n)) bx #[.slice (some ⟨gn, 0, none⟩) n n] 53 ∧ Blk (wr.setCell ⟨bx, 0, none⟩ (.slice (some ⟨gn, 0, none⟩) n n)) gn (bls (dpV pss (k + 1)) n n) 4 ∧ Below w.heap.size w (wr.setCell ⟨bx, 0, none⟩ (.slice (some ⟨gn, 0, none⟩) n n)) from ⟨hkb.set 0 _, hkn.other (fun e => HTY.out _ _ _ _ _ hkb hkn e.symm) 0 _, hbw.setCell (p := ⟨bx, 0, none⟩) (show w.heap.size ≤ bx by have := HBX.out; omega) _⟩)
        clear hkb hkg hkn hbw hi hin
        go_wp2_with fail
        go_roundw
        case rel => exact ⟨k + 1, by go_num, hide ⟨by omega, gn, HE.out.1, HE.out.2.1, HE.out.2.2⟩⟩
        case measure => simp [intOf]; omega
      have hin' : (i : Int) < (n : Int) := by omega
      obtain ⟨b, o, rfl, hbl, hcell⟩ : ∃ b o, a = some ⟨b, o, none⟩ ∧ b < w.heap.size ∧ ∀ i ps, pss[i]? = some ps → ∃ pa c, w.cell? ⟨b, o + i, none⟩ = some (.slice pa ps.length c) ∧ Lst w pa (G10.ints ps) := by
        rcases HL.out with hz | h
        · have := HN.out
          rw [hz] at this; simp at this; omega
        · exact h
      obtain ⟨ps, hps⟩ : ∃ ps, pss[i]? = some ps := ⟨_, List.getElem?_eq_getElem (by rw [HN.out]; exact hin)⟩
      obtain ⟨pa, pc, hc1, hl1⟩ := hcell i ps hps
      rw [← hbw.cell (p := ⟨b, o + i, none⟩) hbl] at hc1
      obtain ⟨hp1, hp2⟩ := HP.out ps (List.mem_of_getElem? hps)
      have CC := hide (containsf_any pa ps.length pc bx g n n ps (dpV pss k) wr rfl hp1 hp2 (by have := H12.out; omega) (hl1.below hbw) hkb hkg)
      have hdp : ps.any (dpV pss k) = dpV pss (k + 1) i := by rw [dpV, List.getD_eq_getElem?_getD, hps]; rfl
      rw [hdp] at CC
      obtain ⟨dv, hdv⟩ : ∃ d, dpV pss (k + 1) i = d := ⟨_, rfl⟩
      rw [hdv] at CC
      have hblw : b < wr.heap.size := Nat.lt_of_lt_of_le hbl hbw.size
      have n0 := hkn.cell i
      rw [bls_at _ _ _ _ hin] at n0
      have nf := hkn.frozen i
      have hkn2 : Blk (wr.setCell ⟨gn, i, none⟩ (.bool dv)) gn (bls (dpV pss (k + 1)) n (i + 1)) 4 := by
        have := hkn.set i (.bool dv)
        rw [← hdv, bls_set _ _ _ hin, hdv] at this
        exact this
      have HE := hide (show Blk (wr.setCell ⟨gn, i, none⟩ (.bool dv)) bx #[.slice (some ⟨g, 0, none⟩) n n] 53 ∧ Blk (wr.setCell ⟨gn, i, none⟩ (.bool dv)) g (bls (dpV pss k) n n) 4 ∧ Below w.heap.size w (wr.setCell ⟨gn, i, none⟩ (.bool dv)) from ⟨hkb.other (HTY.out _ _ _ _ _ hkb hkn) i _, hkg.other HGL.out i _, hbw.setCell (p := ⟨gn, i, none⟩) (show w.heap.size ≤ gn by have := HGN.out; omega) _⟩)
      have HE2 := hide hkn2
      obtain ⟨pl, hpl⟩ : ∃ p, ps.length = p := ⟨_, rfl⟩
      have hpl' : (pl : Int) ≤ 1000000 := by omega
      rw [hpl] at hc1 CC
      clear hcell hps hl1 hdp hdv hkn2 hkb hkg hkn hbw hi hp1 hp2 hpl
      go_wp2_with (go_at_call 48; refine CC.out.mono ?_; rintro e w2 ⟨rfl, hw2⟩; replace hw2 := hw2.symm; subst hw2)
      go_roundw
      case rel => exact ⟨i + 1, by go_num, hide ⟨by omega, HE.out.1, HE.out.2.1, HE2.out, HE.out.2.2⟩⟩
      case measure => simp [intOf]; omega
def gpV (n : Nat) (g : ByteArray) : Option (List Nat) := match G10.shV g.data.toList with
  | some (_, ps) => if (G10.prV g.data.toList ps).all (fun q => decide (q < n)) then some (G10.prV g.data.toList ps) else none
  | none => none
def qf (gs : List ByteArray) (i : Nat) : List Nat := (gpV gs.length (gs.getD i ⟨#[]⟩)).getD []
def okC (gs : List ByteArray) : Bool := (List.range gs.length).all fun i => (gpV gs.length (gs.getD i ⟨#[]⟩)).isSome
def cpV (gs : List ByteArray) : Option (List (List Nat)) := if okC gs then some ((List.range gs.length).map (qf gs)) else none
theorem okC_no {gs : List ByteArray} {k : Nat} (hk : k < gs.length) (h : gpV gs.length (gs.getD k ⟨#[]⟩) = none) : cpV gs = none := by
  unfold cpV
  rw [if_neg]
  intro ho
  unfold okC at ho
  have := List.all_eq_true.1 ho k (List.mem_range.2 hk)
  rw [h] at this; cases this
theorem okC_yes {gs : List ByteArray} (h : ∀ i, i < gs.length → (gpV gs.length (gs.getD i ⟨#[]⟩)).isSome = true) : cpV gs = some ((List.range gs.length).map (qf gs)) := by
  unfold cpV
  rw [if_pos]
  unfold okC
  exact List.all_eq_true.2 fun i hi => h i (List.mem_range.1 hi)
theorem gp_bd {n : Nat} {g : ByteArray} {q : List Nat} (h : gpV n g = some q) : ∀ p ∈ q, p < n := by
  unfold gpV at h
  split at h
  · split at h
    · rename_i hh
      injection h with h
      subst h
      intro p hp
      simpa using List.all_eq_true.1 hh p hp
    · cases h
  · cases h
theorem max_ge : ∀ (r : List Int) (x N : Int), N ≤ r.foldl max x ↔ N ≤ x ∨ ∃ y ∈ r, N ≤ y
  | [], x, N => by simp
  | y :: r, x, N => by
    rw [List.foldl_cons, max_ge r]
    constructor
    · rintro (h | ⟨z, hz, h⟩)
      · rcases Int.le_total x y with h' | h'
        · exact Or.inr ⟨y, List.mem_cons_self, by omega⟩
        · exact Or.inl (by omega)
      · exact Or.inr ⟨z, List.mem_cons_of_mem _ hz, h⟩
    · rintro (h | ⟨z, hz, h⟩)
      · exact Or.inl (by omega)
      · rcases List.mem_cons.1 hz with rfl | hz
        · exact Or.inl (by omega)
        · exact Or.inr ⟨z, hz, h⟩
theorem max_ints (qs : List Nat) (n : Nat) (h : 0 < qs.length) : decide ((n : Int) ≤ maxV (G10.ints qs)) = !(qs.all fun q => decide (q < n)) := by
  match qs, h with
  | q :: r, _ =>
    have e : maxV (G10.ints (q :: r)) = (G10.ints r).foldl max (q : Int) := rfl
    rw [e, Bool.eq_iff_iff, decide_eq_true_eq, max_ge, Bool.not_eq_true', List.all_eq_false]
    constructor
    · rintro (h | ⟨y, hy, h⟩)
      · exact ⟨q, List.mem_cons_self, by simp; omega⟩
      · unfold G10.ints at hy
        obtain ⟨z, hz, rfl⟩ := List.mem_map.1 hy
        exact ⟨z, List.mem_cons_of_mem _ hz, by simp; omega⟩
    · rintro ⟨z, hz, h⟩
      have h : n ≤ z := by simpa using h
      rcases List.mem_cons.1 hz with rfl | hz
      · exact Or.inl (by omega)
      · exact Or.inr ⟨(z : Int), by unfold G10.ints; exact List.mem_map.2 ⟨z, hz, rfl⟩, by omega⟩
theorem info_ints : (Tryd.prog.info? 23).map (fun i => (i.zero, i.size, i.bytes)) = some (some (.slice none 0 0), 1, 24) := by kernel_rfl
theorem make_iss (n : Nat) (hn : n ≤ 100000) (x : World) : (Instr.makeSlice 59 (.int .i64 (n : Int)) (.int .i64 (n : Int))).run Tryd.prog x = .ok (.slice (some ⟨x.heap.size, 0, none⟩) n n) (x.alloc (.cells (Array.replicate n (.slice none 0 0)) 23)) := by
  obtain ⟨i0, hi, hz0, hz1, hz2⟩ := info_parts5 info_ints
  have h := run_make (P := Tryd.prog) x 59 23 i0 (.slice none 0 0) Tryd.underlying59 hi hz0 .i64 .i64 n n (by omega) (Int.le_refl _) (by rw [hz2]; omega) (by omega)
  rw [hz1] at h
  simp only [Int.toNat_natCast, Nat.mul_one] at h
  have e : madeCells (Value.slice none 0 0).cells n = Array.replicate n (.slice none 0 0) := by
    apply Array.ext (by simp [madeCells])
    intro j h1 h2
    simp [madeCells, Value.cells, Nat.mod_one]
  rw [e] at h
  exact h
def LN (w : World) (g : Nat) (pa : Option Addr) (zs : List Int) : Prop := zs = [] ∨ ∃ b, pa = some ⟨b, 0, none⟩ ∧ g < b ∧ b < w.heap.size ∧ ∀ i, i < zs.length → w.cell? ⟨b, 0 + i, none⟩ = some (.int .i64 (zs.getD i 0))
theorem LN.lst {w : World} {g : Nat} {pa : Option Addr} {zs : List Int} (h : LN w g pa zs) : Lst w pa zs := by
  rcases h with h | ⟨b, h1, _, h2, h3⟩
  · exact Or.inl h
  · exact Or.inr ⟨b, 0, h1, h2, h3⟩
theorem LN.below {w w' : World} {g : Nat} {pa : Option Addr} {zs : List Int} (h : LN w g pa zs) (hb : Below w.heap.size w w') : LN w' g pa zs := by
  rcases h with h | ⟨b, h1, h2, h3, h4⟩
  · exact Or.inl h
  · exact Or.inr ⟨b, h1, h2, Nat.lt_of_lt_of_le h3 hb.size, fun i hi => by rw [hb.cell (p := ⟨b, 0 + i, none⟩) h3]; exact h4 i hi⟩
theorem LN.set {w : World} {g j : Nat} {pa : Option Addr} {zs : List Int} {v : Value} (h : LN w g pa zs) : LN (w.setCell ⟨g, j, none⟩ v) g pa zs := by
  rcases h with h | ⟨b, h1, h2, h3, h4⟩
  · exact Or.inl h
  · refine Or.inr ⟨b, h1, h2, by simpa [World.setCell] using h3, fun i hi => ?_⟩
    rw [World.cell?_setCell_other _ _ _ _ (by first | (simp; omega) | simp | omega)]
    exact h4 i hi
theorem irow_ln {w : World} {B g : Nat} {v : Value} {zs : List Int} (h : IRow w B v zs) (hg : g < B) : ∃ pa c, v = .slice pa zs.length c ∧ LN w g pa zs := by
  have h' := h
  obtain ⟨_, ⟨h0, h1⟩ | ⟨b, cap, cur, hv, hb, hh, hc, hm, _⟩⟩ := h'
  · exact ⟨none, 0, by rw [h0, h1], Or.inl (List.eq_nil_of_length_eq_zero h1)⟩
  · refine ⟨some ⟨b, 0, none⟩, cap, hv, ?_⟩
    rw [hv] at h
    refine Or.inr ⟨b, rfl, by omega, (World.ownsRow.lt h b rfl).2, fun i hi => ?_⟩
    rw [Nat.zero_add, World.ownsRow.cellAt h i (by omega), List.getElem?_map, List.getElem?_eq_getElem hi, List.getD_eq_getElem?_getD, List.getElem?_eq_getElem hi]
    rfl
def CRel (gs : List ByteArray) (g n k : Nat) (w : World) : Prop := ∃ cur, Blk w g cur 23 ∧ cur.size = n ∧ ∀ i, i < k → (gpV gs.length (gs.getD i ⟨#[]⟩)).isSome = true ∧ ∃ pa c, cur[i]? = some (.slice pa (qf gs i).length c) ∧ LN w g pa (G10.ints (qf gs i))
theorem CRel.below {gs : List ByteArray} {g n k : Nat} {w w' : World} (h : CRel gs g n k w) (hb : Below w.heap.size w w') : CRel gs g n k w' := by
  obtain ⟨cur, h1, h2, h3⟩ := h
  refine ⟨cur, h1.below hb, h2, fun i hi => ?_⟩
  obtain ⟨h4, pa, c, h5, h6⟩ := h3 i hi
  exact ⟨h4, pa, c, h5, h6.below hb⟩
theorem CRel.put {gs : List ByteArray} {g n k : Nat} {w : World} (h : CRel gs g n k w) (hk : k < n) (hs : (gpV gs.length (gs.getD k ⟨#[]⟩)).isSome = true) {pa : Option Addr} {c : Nat} (hl : LN w g pa (G10.ints (qf gs k))) : CRel gs g n (k + 1) (w.setCell ⟨g, k, none⟩ (.slice pa (qf gs k).length c)) := by
  obtain ⟨cur, h1, h2, h3⟩ := h
  refine ⟨_, h1.set k _, by simpa using h2, fun i hi => ?_⟩
  rcases Nat.lt_or_ge i k with hik | hik
  · obtain ⟨h4, pa', c', h5, h6⟩ := h3 i hik
    exact ⟨h4, pa', c', by rw [Array.getElem?_setIfInBounds_ne (by omega)]; exact h5, h6.set⟩
  · obtain rfl : i = k := by omega
    exact ⟨hs, pa, c, by rw [Array.getElem?_setIfInBounds_self_of_lt (by omega)], hl.set⟩
def CpR (w : World) (gs : List ByteArray) (n : Nat) (e : Ending) (w' : World) : Prop := Below w.heap.size w w' ∧ ((cpV gs = none ∧ e = .returned (.tuple #[.slice none 0 0, .bool false])) ∨ ∃ pss, cpV gs = some pss ∧ ∃ g, e = .returned (.tuple #[.slice (some ⟨g, 0, none⟩) n n, .bool true]) ∧ PLst w' (some ⟨g, 0, none⟩) pss)
set_option maxRecDepth 8000 in
set_option maxHeartbeats 4000000 in
theorem comp_any (a : Option Addr) (n c : Nat) (gs : List ByteArray) (w : World) (hn : gs.length = n) (h2 : n ≤ 4096) (hz : ∀ g ∈ gs, g.size ≤ 1000000) (hL : G10.SLst w a gs) :
    Calls Tryd.prog 34 #[.slice a n c] w (CpR w gs n) := by
  have h2' : (n : Int) ≤ 4096 := by omega
  have MK := make_iss n (by omega)
  have HN := hide hn
  have HZ := hide hz
  have HL := hide hL
  have k0 := Blk.new w (Array.replicate n (.slice none 0 0)) 23
  have b0 := (Below.refl w.heap.size w).alloc (Nat.le_refl _) (.cells (Array.replicate n (.slice none 0 0)) 23)
  have HS0 := hide (show CRel gs w.heap.size n 0 (w.alloc (.cells (Array.replicate n (.slice none 0 0)) 23)) ∧ Below w.heap.size w (w.alloc (.cells (Array.replicate n (.slice none 0 0)) 23)) from ⟨⟨_, k0, by simp, fun i hi => by omega⟩, b0⟩)
  clear hn hz hL k0 b0 h2
  go_enter Tryd.func34, Tryd.ntmps34
  go_wp2_with fail
  go_loopw [14] (fun vi wr => ∃ k : Nat, vi = .int .i64 (k : Int) ∧ Hid (k ≤ n ∧ CRel gs w.heap.size n k wr ∧ Below w.heap.size w wr)) (fun vi _ => n - (intOf vi).toNat)
  case atStart => exact ⟨0, rfl, hide ⟨by omega, HS0.out.1, HS0.out.2⟩⟩
  case round =>
    clear HS0 MK
    obtain ⟨k, rfl, HV⟩ := hrel
    obtain ⟨hk, hC, hbw⟩ := HV.out
    have hk0 : (0 : Int) ≤ (k : Int) := by omega
    clear HV
    by_cases hlt : k < n
    case neg =>
      obtain rfl : n = k := by omega
      have hlt' : ¬ (n : Int) < (n : Int) := by omega
      have HE := hide (show CpR w gs n (.returned (.tuple #[.slice (some ⟨w.heap.size, 0, none⟩) n n, .bool true])) wr from by
        obtain ⟨cur, h1, h2, h3⟩ := hC
        refine ⟨hbw, Or.inr ⟨_, okC_yes (fun i hi => (h3 i (by rw [← HN.out]; exact hi)).1), _, rfl, ?_⟩⟩
        refine Or.inr ⟨w.heap.size, 0, rfl, h1.lt, fun i ps hi => ?_⟩
        rw [List.getElem?_map] at hi
        obtain ⟨j, hj, rfl⟩ := Option.map_eq_some_iff.1 hi
        have hjl := (List.getElem?_eq_some_iff.1 hj)
        obtain ⟨hjl, hje⟩ := hjl
        rw [List.getElem_range] at hje
        subst hje
        have hin : i < n := by rw [← HN.out]; simpa using hjl
        obtain ⟨_, pa, c, h5, h6⟩ := h3 i hin
        exact ⟨pa, c, by rw [Nat.zero_add, h1.cell i]; exact h5, h6.lst⟩)
      clear hC hbw hk hlt
      go_wp2_with fail
      go_ret2
      exact HE.out
    have hlt' : (k : Int) < (n : Int) := by omega
    obtain ⟨b, o, rfl, hbl, hcell⟩ : ∃ b o, a = some ⟨b, o, none⟩ ∧ b < w.heap.size ∧ ∀ i, i < gs.length → w.cell? ⟨b, o + i, none⟩ = some (.string (gs.getD i ⟨#[]⟩)) := by
      rcases HL.out with hz | h
      · have := HN.out
        rw [hz] at this; simp at this; omega
      · exact h
    obtain ⟨s, hs⟩ : ∃ s, gs.getD k ⟨#[]⟩ = s := ⟨_, rfl⟩
    have c0 := hcell k (by rw [HN.out]; exact hlt)
    rw [← hbw.cell (p := ⟨b, o + k, none⟩) hbl, hs] at c0
    have hss : s.size ≤ 1000000 := by
      rw [← hs, List.getD_eq_getElem?_getD, List.getElem?_eq_getElem (by rw [HN.out]; exact hlt)]
      exact HZ.out _ (List.getElem_mem _)
    have CP := hide (G10.parts_any s wr hss)
    have hblw : b < wr.heap.size := Nat.lt_of_lt_of_le hbl hbw.size
    have HC := hide hC
    have HBW := hide hbw
    have HS := hide hs
    have hkl : k < gs.length := by rw [HN.out]; exact hlt
    have HKL := hide hkl
    have HNB := hide (show CRel gs w.heap.size n k wr → w.heap.size < wr.heap.size from fun h => by obtain ⟨cur, h1, _⟩ := h; exact h1.lt)
    clear hcell hC hbw hk hs hss hkl
    cases hR : G10.shV s.data.toList with
    | none =>
      have HE := hide (show cpV gs = none from okC_no HKL.out (by rw [HS.out]; unfold gpV; rw [hR]))
      rw [hR] at CP
      unfold G10.PrR at CP
      dsimp only at CP
      clear hR
      go_wp2_with fail
      refine CP.out.mono ?_
      rintro e w1 ⟨rfl, h1⟩
      have HB1 := hide (below_t5 HBW.out h1)
      clear h1 c0
      go_wp2_with fail
      go_ret2
      exact ⟨HB1.out, Or.inl ⟨HE.out, rfl⟩⟩
    | some r =>
      obtain ⟨p, ps⟩ := r
      obtain ⟨qs, hqs⟩ : ∃ q, G10.prV s.data.toList ps = q := ⟨_, rfl⟩
      have hql : qs.length ≤ 64 := by rw [← hqs]; unfold G10.prV; rw [List.length_map]; exact (G10.shV_bd hR).2.2
      rw [hR] at CP
      unfold G10.PrR at CP
      dsimp only at CP
      rw [hqs] at CP
      have hgp : gpV gs.length (gs.getD k ⟨#[]⟩) = if qs.all (fun q => decide (q < gs.length)) then some qs else none := by rw [HS.out]; unfold gpV; rw [hR]; simp only [hqs]
      have hil : (G10.ints qs).length = qs.length := by unfold G10.ints; rw [List.length_map]
      cases hall : qs.all (fun q => decide (q < gs.length)) with
      | false =>
        rw [hall] at hgp
        have HE := hide (show cpV gs = none from okC_no HKL.out hgp)
        have hq0 : 0 < qs.length := by
          cases qs with
          | nil => simp at hall
          | cons _ _ => simp
        have hmx := max_ints qs gs.length hq0
        rw [hall, HN.out] at hmx
        have HMX := hide hmx
        clear hR hgp hall hqs hmx
        go_wp2_with fail
        refine CP.out.mono ?_
        rintro e w1 ⟨v, rfl, hI, h1⟩
        obtain ⟨pa, pc, hv, hln⟩ := irow_ln hI (HNB.out HC.out)
        rw [hil] at hv
        subst hv
        have CM := hide (max_any pa (G10.ints qs) qs.length pc w1 hil (by omega) (by omega) hln.lst)
        have HB1 := hide (below_t5 HBW.out h1)
        have hm1 := HMX.out
        generalize maxV (G10.ints qs) = MX at CM hm1
        have hm2 : (n : Int) ≤ MX := by simpa using hm1
        obtain ⟨ql, hqe⟩ : ∃ q, qs.length = q := ⟨_, rfl⟩
        rw [hqe] at CM ⊢
        have hq1 : (0 : Int) < (ql : Int) := by omega
        clear h1 c0 hI hln hm1 hil hq0 hql
        go_wp2_with (go_at_call 46; refine CM.out.mono ?_; rintro e w2 ⟨rfl, hw2⟩; replace hw2 := hw2.symm; subst hw2)
        go_ret2
        exact ⟨HB1.out, Or.inl ⟨HE.out, rfl⟩⟩
      | true =>
        rw [hall, if_pos rfl] at hgp
        have hqf : qf gs k = qs := by unfold qf; rw [hgp]; rfl
        have hisS : (gpV gs.length (gs.getD k ⟨#[]⟩)).isSome = true := by rw [hgp]; rfl
        have HQ := hide (And.intro hqf hisS)
        have hmx : 0 < qs.length → decide ((n : Int) ≤ maxV (G10.ints qs)) = false := fun h => by
          have := max_ints qs gs.length h
          rw [hall, HN.out] at this
          exact this
        have HMX := hide hmx
        have HQL := hide hql
        clear hR hgp hall hqs hmx hqf hisS
        go_wp2_with fail
        refine CP.out.mono ?_
        rintro e w1 ⟨v, rfl, hI, h1⟩
        obtain ⟨pa, pc, hv, hln⟩ := irow_ln hI (HNB.out HC.out)
        rw [hil] at hv
        subst hv
        have hC1 := HC.out.below h1
        have hput := hC1.put (c := pc) hlt HQ.out.2 (show LN w1 w.heap.size pa (G10.ints (qf gs k)) by rw [HQ.out.1]; exact hln)
        rw [HQ.out.1] at hput
        have HP := hide hput
        have hbs : Below w.heap.size w (w1.setCell ⟨w.heap.size, k, none⟩ (.slice pa qs.length pc)) := (below_t5 HBW.out h1).setCell (p := ⟨w.heap.size, k, none⟩) (Nat.le_refl _) _
        have HBS := hide hbs
        obtain ⟨cur, hcb, hcs, _⟩ := hC1
        have g0 := hcb.cell k
        rw [Array.getElem?_eq_getElem (by omega)] at g0
        have gf := hcb.frozen k
        have glt := hcb.lt
        have CM := hide (fun h0 : 1 ≤ qs.length => max_any pa (G10.ints qs) qs.length pc w1 hil h0 (by have := HQL.out; omega) hln.lst)
        generalize cur[k] = z0 at g0
        obtain ⟨ql, hqe⟩ : ∃ q, qs.length = q := ⟨_, rfl⟩
        rw [hqe] at CM HP HBS HMX hql ⊢
        generalize maxV (G10.ints qs) = MX at CM HMX
        clear h1 c0 hI hln hil hput hbs hcb hcs hqe HC HBW
        by_cases hq0 : 0 < ql
        · have hq1 : (0 : Int) < (ql : Int) := by omega
          have hm2 : ¬ (n : Int) ≤ MX := by simpa using HMX.out hq0
          have CM1 := hide (CM.out (by omega))
          go_wp2_with (go_at_call 46; refine CM1.out.mono ?_; rintro e w2 ⟨rfl, hw2⟩; replace hw2 := hw2.symm; subst hw2)
          go_roundw
          case rel => exact ⟨k + 1, by go_num, hide ⟨by omega, HP.out, HBS.out⟩⟩
          case measure => simp [intOf]; omega
        · have hq1 : ¬ (0 : Int) < (ql : Int) := by omega
          have hq2 : decide (0 < ql) = false := by rw [decide_eq_false_iff_not]; exact hq0
          go_wp2_with fail
          go_roundw
          case rel => exact ⟨k + 1, by go_num, hide ⟨by omega, HP.out, HBS.out⟩⟩
          case measure => simp [intOf]; omega
def dmax (o : List Int) (ps : List Nat) : Int := ps.foldl (fun d p => max d (o.getD p 0)) 0
def dnew (o : List Int) (ps : List Nat) (i : Nat) : Int := min 9 (max (o.getD i 0) (dmax o ps + 1))
theorem dmax_snoc (o : List Int) (ps : List Nat) (p : Nat) : dmax o (ps ++ [p]) = max (dmax o ps) (o.getD p 0) := by
  unfold dmax; rw [List.foldl_append]; rfl
theorem fold_ge (o : List Int) : ∀ (ps : List Nat) (a N : Int), N ≤ ps.foldl (fun d p => max d (o.getD p 0)) a ↔ N ≤ a ∨ ∃ p ∈ ps, N ≤ o.getD p 0
  | [], a, N => by simp
  | p :: ps, a, N => by
    rw [List.foldl_cons, fold_ge o ps]
    constructor
    · rintro (h | ⟨q, hq, h⟩)
      · by_cases h1 : N ≤ a
        · exact Or.inl h1
        · exact Or.inr ⟨p, List.mem_cons_self, by omega⟩
      · exact Or.inr ⟨q, List.mem_cons_of_mem _ hq, h⟩
    · rintro (h | ⟨q, hq, h⟩)
      · exact Or.inl (by omega)
      · rcases List.mem_cons.1 hq with rfl | hq
        · exact Or.inl (by omega)
        · exact Or.inr ⟨q, hq, h⟩
theorem dmax_ge (o : List Int) (ps : List Nat) (N : Int) : N ≤ dmax o ps ↔ N ≤ 0 ∨ ∃ p ∈ ps, N ≤ o.getD p 0 := fold_ge o ps 0 N
structure DI (pss : List (List Nat)) (n r i : Nat) (o : List Int) : Prop where
  len : o.length = n
  lo : ∀ j, j < n → 0 ≤ o.getD j 0
  hi : ∀ j, j < n → o.getD j 0 ≤ 9
  sound : ∀ j, j < n → ∀ k : Nat, (k : Int) ≤ o.getD j 0 → dpV pss k j = true
  whole : ∀ j, j < n → ∀ k : Nat, k ≤ 9 → k ≤ (if j < i then r + 1 else r) → dpV pss k j = true → (k : Int) ≤ o.getD j 0
theorem rep_get (n j : Nat) : (List.replicate n (0 : Int)).getD j 0 = 0 := by
  rw [List.getD_eq_getElem?_getD, List.getElem?_replicate]
  split <;> rfl
theorem DI.start (pss : List (List Nat)) (n : Nat) : DI pss n 0 0 (List.replicate n 0) where
  len := by simp
  lo := fun j _ => by rw [rep_get]; omega
  hi := fun j _ => by rw [rep_get]; omega
  sound := fun j _ k h => by
    rw [rep_get] at h
    obtain rfl : k = 0 := by omega
    rfl
  whole := fun j _ k _ h _ => by
    rw [rep_get]
    simp at h
    omega
theorem DI.round {pss : List (List Nat)} {n r : Nat} {o : List Int} (h : DI pss n r n o) : DI pss n (r + 1) 0 o :=
  ⟨h.len, h.lo, h.hi, h.sound, fun j hj k h1 h2 h3 => h.whole j hj k h1 (by rw [if_pos hj]; simpa using h2) h3⟩
theorem DI.skip {pss : List (List Nat)} {n r i : Nat} {o : List Int} (h : DI pss n r i o) (hi : i < n) (he : pss.getD i [] = []) : DI pss n r (i + 1) o :=
  ⟨h.len, h.lo, h.hi, h.sound, fun j hj k h1 h2 h3 => by
    by_cases hji : j = i
    · subst hji
      cases k with
      | zero => exact h.lo j hj
      | succ k =>
        rw [dpV, he] at h3
        simp at h3
    · refine h.whole j hj k h1 ?_ h3
      by_cases h4 : j < i
      · rw [if_pos h4]; rw [if_pos (by omega)] at h2; exact h2
      · rw [if_neg h4]; rw [if_neg (by omega)] at h2; exact h2⟩
theorem set_get (o : List Int) (i j : Nat) (v : Int) (hi : i < o.length) : (o.set i v).getD j 0 = if j = i then v else o.getD j 0 := by
  rw [List.getD_eq_getElem?_getD, List.getD_eq_getElem?_getD, List.getElem?_set]
  by_cases h : i = j
  · subst h; rw [if_pos rfl, if_pos hi, if_pos rfl]; rfl
  · rw [if_neg h, if_neg (fun e => h e.symm)]
theorem DI.step {pss : List (List Nat)} {n r i : Nat} {o : List Int} {ps : List Nat} (h : DI pss n r i o) (hi : i < n) (hps : pss.getD i [] = ps) (h0 : ps ≠ []) (hp : ∀ p ∈ ps, p < n) : DI pss n r (i + 1) (o.set i (dnew o ps i)) := by
  have hl : i < o.length := by rw [h.len]; exact hi
  have hd0 : 0 ≤ dmax o ps := (dmax_ge o ps 0).2 (Or.inl (Int.le_refl _))
  refine ⟨by rw [List.length_set]; exact h.len, fun j hj => ?_, fun j hj => ?_, fun j hj k hk => ?_, fun j hj k h1 h2 h3 => ?_⟩
  · rw [set_get o i j _ hl]
    split
    · unfold dnew; omega
    · exact h.lo j hj
  · rw [set_get o i j _ hl]
    split
    · unfold dnew; omega
    · exact h.hi j hj
  · rw [set_get o i j _ hl] at hk
    split at hk
    · rename_i e
      subst e
      unfold dnew at hk
      by_cases h5 : (k : Int) ≤ o.getD j 0
      · exact h.sound j hj k h5
      · have h6 : (k : Int) ≤ dmax o ps + 1 := by omega
        cases k with
        | zero => rfl
        | succ k =>
          rw [dpV, hps, List.any_eq_true]
          rcases (dmax_ge o ps (k : Int)).1 (by omega) with h7 | ⟨p, hpm, h7⟩
          · obtain rfl : k = 0 := by omega
            obtain ⟨p, hpm⟩ := List.exists_mem_of_ne_nil ps h0
            exact ⟨p, hpm, rfl⟩
          · exact ⟨p, hpm, h.sound p (hp p hpm) k h7⟩
    · exact h.sound j hj k hk
  · rw [set_get o i j _ hl]
    split
    · rename_i e
      subst e
      rw [if_pos (by omega)] at h2
      have hlo := h.lo j hj
      unfold dnew
      cases k with
      | zero => omega
      | succ k =>
        rw [dpV, hps, List.any_eq_true] at h3
        obtain ⟨p, hpm, h4⟩ := h3
        have h5 := h.whole p (hp p hpm) k (by omega) (by split <;> omega) h4
        have h6 := (dmax_ge o ps (k : Int)).2 (Or.inr ⟨p, hpm, h5⟩)
        omega
    · rename_i hne
      refine h.whole j hj k h1 ?_ h3
      by_cases h4 : j < i
      · rw [if_pos h4]; rw [if_pos (by omega)] at h2; exact h2
      · rw [if_neg h4]; rw [if_neg (by omega)] at h2; exact h2
theorem DI.fin {pss : List (List Nat)} {n r : Nat} {o : List Int} (h : DI pss n r 0 o) (hr : 9 ≤ r) (j : Nat) (hj : j < n) : decide (8 < o.getD j 0) = dpV pss 9 j := by
  cases hd : dpV pss 9 j with
  | true =>
    have := h.whole j hj 9 (by omega) (by rw [if_neg (by omega)]; omega) hd
    exact decide_eq_true (by omega)
  | false =>
    have : ¬ (8 < o.getD j 0) := fun h8 => by
      have h9 := h.sound j hj 9 (by omega)
      rw [hd] at h9
      cases h9
    exact decide_eq_false this
def ilA (o : List Int) : Array Value := (o.map (Value.int .i64)).toArray
theorem ilA_at (o : List Int) (j : Nat) (h : j < o.length) : (ilA o)[j]? = some (.int .i64 (o.getD j 0)) := by
  unfold ilA
  simp [List.getElem?_eq_getElem h, List.getD_eq_getElem?_getD]
theorem ilA_set (o : List Int) (i : Nat) (v : Int) : (ilA o).setIfInBounds i (.int .i64 v) = ilA (o.set i v) := by
  unfold ilA
  rw [List.map_set]
  simp
theorem ilA_zero (n : Nat) : Array.replicate n (Value.int .i64 0) = ilA (List.replicate n 0) := by
  unfold ilA
  simp
set_option maxRecDepth 8000 in
set_option maxHeartbeats 4000000 in
theorem rdeep_any (a : Option Addr) (n c : Nat) (pss : List (List Nat)) (w : World) (hn : pss.length = n) (h2 : n ≤ 4096) (hp : ∀ ps ∈ pss, ps.length ≤ 1000000 ∧ ∀ p ∈ ps, p < n) (hL : PLst w a pss) :
    Calls Tryd.prog 40 #[.slice a n c] w fun e w' => ∃ g o, e = .returned (.slice (some ⟨g, 0, none⟩) n n) ∧ Blk w' g (ilA o) 3 ∧ DI pss n 10 0 o ∧ Below w.heap.size w w' := by
  have h2' : (n : Int) ≤ 4096 := by omega
  have MK := Go.Proofs.YthnpnkiomknkeaaDoor.make_ints n (by omega)
  have HN := hide hn
  have HP := hide hp
  have HL := hide hL
  have k0 : Blk (w.alloc (.cells (Array.replicate n (.int .i64 0)) 3)) w.heap.size (ilA (List.replicate n 0)) 3 := by rw [← ilA_zero]; exact Blk.new w _ _
  have b0 := (Below.refl w.heap.size w).alloc (Nat.le_refl _) (.cells (Array.replicate n (.int .i64 0)) 3)
  have HS0 := hide (And.intro k0 b0)
  clear hn hp hL k0 b0 h2
  go_enter Tryd.func40, Tryd.ntmps40
  go_wp2_with fail
  go_loopw [4] (fun vi wr => ∃ r : Nat, vi = .int .i64 (r : Int) ∧ Hid (r ≤ 10 ∧ ∃ o, Blk wr w.heap.size (ilA o) 3 ∧ DI pss n r 0 o ∧ Below w.heap.size w wr)) (fun vi _ => 10 - (intOf vi).toNat)
  case atStart => exact ⟨0, rfl, hide ⟨by omega, List.replicate n 0, HS0.out.1, DI.start pss n, HS0.out.2⟩⟩
  case round =>
    clear HS0 MK
    obtain ⟨r, rfl, HV⟩ := hrel
    obtain ⟨hr, o, hk, hD, hb⟩ := HV.out
    have hr0 : (0 : Int) ≤ (r : Int) := by omega
    clear HV
    by_cases hlt : r < 10
    case neg =>
      obtain rfl : r = 10 := by omega
      have HE := hide (And.intro hk (And.intro hD hb))
      have hlt' : ¬ ((10 : Nat) : Int) < 10 := by omega
      clear hk hD hb hlt hr
      go_wp2_with fail
      go_ret
      exact ⟨_, rfl, o, HE.out.1, HE.out.2.1, HE.out.2.2⟩
    have hlt' : (r : Int) < 10 := by omega
    have HI := hide (And.intro hk (And.intro hD hb))
    clear hk hD hb hr hlt
    go_wp2_with fail
    go_loopw [5] (fun vi wq => ∃ i : Nat, vi = .int .i64 (i : Int) ∧ Hid (i ≤ n ∧ ∃ o, Blk wq w.heap.size (ilA o) 3 ∧ DI pss n r i o ∧ Below w.heap.size w wq)) (fun vi _ => n - (intOf vi).toNat)
    case atStart => exact ⟨0, rfl, hide ⟨by omega, o, HI.out.1, HI.out.2.1, HI.out.2.2⟩⟩
    case round =>
      clear HI o
      obtain ⟨i, rfl, HV⟩ := hrel
      obtain ⟨hi, o, hk, hD, hb⟩ := HV.out
      have hi0 : (0 : Int) ≤ (i : Int) := by omega
      clear HV
      by_cases hin : i < n
      case neg =>
        obtain rfl : n = i := by omega
        have hin' : ¬ (n : Int) < (n : Int) := by omega
        have HE := hide (And.intro hk (And.intro hD.round hb))
        clear hk hD hb hi hin
        go_wp2_with fail
        go_roundw
        case rel => exact ⟨r + 1, by go_num, hide ⟨by omega, o, HE.out.1, HE.out.2.1, HE.out.2.2⟩⟩
        case measure => simp [intOf]; omega
      have hin' : (i : Int) < (n : Int) := by omega
      obtain ⟨b, of, rfl, hbl, hcell⟩ : ∃ b o, a = some ⟨b, o, none⟩ ∧ b < w.heap.size ∧ ∀ i ps, pss[i]? = some ps → ∃ pa c, w.cell? ⟨b, o + i, none⟩ = some (.slice pa ps.length c) ∧ Lst w pa (G10.ints ps) := by
        rcases HL.out with hz | h
        · have := HN.out
          rw [hz] at this; simp at this; omega
        · exact h
      obtain ⟨ps, hps⟩ : ∃ ps, pss[i]? = some ps := ⟨_, List.getElem?_eq_getElem (by rw [HN.out]; exact hin)⟩
      obtain ⟨pa, pc, hc1, hl1⟩ := hcell i ps hps
      rw [← hb.cell (p := ⟨b, of + i, none⟩) hbl] at hc1
      have hblw : b < wr.heap.size := Nat.lt_of_lt_of_le hbl hb.size
      obtain ⟨hp1, hp2⟩ := HP.out ps (List.mem_of_getElem? hps)
      have hgd : pss.getD i [] = ps := by rw [List.getD_eq_getElem?_getD, hps]; rfl
      have HL1 := hide (hl1.below hb)
      have HK := hide hk
      have HD := hide hD
      have HB := hide hb
      have HP2 := hide hp2
      have HGD := hide hgd
      have HIN := hide hin
      obtain ⟨l, hl⟩ : ∃ l, ps.length = l := ⟨_, rfl⟩
      rw [hl] at hc1 hp1
      have HLE := hide hl
      have hp1' : (l : Int) ≤ 1000000 := by omega
      clear hcell hps hl1 hp2 hgd hk hD hb hl hi
      by_cases hl0 : l = 0
      · subst hl0
        have HE := hide (HD.out.skip HIN.out (by rw [HGD.out]; exact List.eq_nil_of_length_eq_zero HLE.out))
        clear hp1
        go_wp2_with fail
        go_roundw
        case rel => exact ⟨i + 1, by go_num, hide ⟨by have := HIN.out; omega, o, HK.out, HE.out, HB.out⟩⟩
        case measure => simp [intOf]; omega
      have hl0' : ((l : Int) == 0) = false := by simp; omega
      have HL0 := hide hl0
      clear hl0
      obtain ⟨WM, hWM⟩ : ∃ x, x = wr := ⟨_, rfl⟩
      subst hWM
      go_wp2_with fail
      go_loopw [6, 7] (fun vd vk wq => ∃ (k : Nat) (d : Int), vk = .int .i64 (k : Int) ∧ vd = .int .i64 d ∧ Hid (wq = WM ∧ k ≤ l ∧ d = dmax o (ps.take k))) (fun _ vk _ => l - (intOf vk).toNat)
      case atStart => exact ⟨0, 0, rfl, rfl, hide ⟨rfl, by omega, rfl⟩⟩
      case round =>
        obtain ⟨k, d, rfl, rfl, HV⟩ := hrel
        obtain ⟨hw, hk, hd⟩ := HV.out
        replace hw := hw.symm
        subst hw
        have hk0 : (0 : Int) ≤ (k : Int) := by omega
        have hd0 : 0 ≤ d := by rw [hd]; exact (dmax_ge _ _ _).2 (Or.inl (Int.le_refl _))
        have hd9 : d ≤ 9 := by
          rw [hd]
          by_cases h : dmax o (ps.take k) ≤ 9
          · exact h
          · exfalso
            rcases (dmax_ge o (ps.take k) 10).1 (by omega) with h1 | ⟨p, hp, h1⟩
            · omega
            · have := HD.out.hi p (HP2.out p (List.mem_of_mem_take hp)); omega
        have HDD := hide hd
        clear HV hd
        by_cases hkl : k < l
        · have hkl' : (k : Int) < (l : Int) := by omega
          obtain ⟨p, hpk⟩ : ∃ p, ps[k]? = some p := ⟨_, List.getElem?_eq_getElem (by rw [HLE.out]; exact hkl)⟩
          have hpn := HP2.out p (List.mem_of_getElem? hpk)
          have hpg : ps.getD k 0 = p := by rw [List.getD_eq_getElem?_getD, hpk]; rfl
          obtain ⟨pb, po, rfl, hpb, hpc⟩ : ∃ pb po, pa = some ⟨pb, po, none⟩ ∧ pb < WM.heap.size ∧ WM.cell? ⟨pb, po + k, none⟩ = some (.int .i64 (p : Int)) := by
            rcases HL1.out with hz | ⟨pb, po, h1, h2, h3⟩
            · have : (G10.ints ps).length = ps.length := by unfold G10.ints; simp
              rw [hz, HLE.out] at this; simp at this; omega
            · refine ⟨pb, po, h1, h2, ?_⟩
              rw [h3 k (by unfold G10.ints; rw [List.length_map, HLE.out]; exact hkl)]
              unfold G10.ints
              rw [List.getD_eq_getElem?_getD, List.getElem?_map, hpk]
              rfl
          have oc := HK.out.cell p
          rw [ilA_at o p (by rw [HD.out.len]; exact hpn)] at oc
          have olt := HK.out.lt
          have hpn' : (p : Int) < (n : Int) := by omega
          have hp0 : (0 : Int) ≤ (p : Int) := by omega
          obtain ⟨x, hx⟩ : ∃ x, o.getD p 0 = x := ⟨_, rfl⟩
          rw [hx] at oc
          have HST := hide (show max d x = dmax o (ps.take (k + 1)) by
            rw [List.take_add_one, hpk, Option.toList_some, dmax_snoc, ← HDD.out, hx])
          clear hpk hpg hpn hx
          go_wp2_with fail
          go_roundw
          case rel => exact ⟨k + 1, max d x, by go_num, rfl, hide ⟨by first | rfl | trivial, by omega, HST.out⟩⟩
          case measure => simp [intOf]; omega
        · have hkl' : ¬ (k : Int) < (l : Int) := by omega
          have hdl : d = dmax o ps := by rw [HDD.out, List.take_of_length_le (by rw [HLE.out]; omega)]
          have oc := HK.out.cell i
          rw [ilA_at o i (by rw [HD.out.len]; exact HIN.out)] at oc
          have ofz := HK.out.frozen i
          have olt := HK.out.lt
          have hoi0 := HD.out.lo i HIN.out
          have hoi9 := HD.out.hi i HIN.out
          obtain ⟨x, hx⟩ : ∃ x, o.getD i 0 = x := ⟨_, rfl⟩
          rw [hx] at oc hoi0 hoi9
          have HE := hide (show Blk (WM.setCell ⟨w.heap.size, i, none⟩ (.int .i64 (min 9 (max x (d + 1))))) w.heap.size (ilA (o.set i (min 9 (max x (d + 1))))) 3 ∧ DI pss n r (i + 1) (o.set i (min 9 (max x (d + 1)))) ∧ Below w.heap.size w (WM.setCell ⟨w.heap.size, i, none⟩ (.int .i64 (min 9 (max x (d + 1))))) from by
            refine ⟨?_, ?_, HB.out.setCell (p := ⟨w.heap.size, i, none⟩) (Nat.le_refl _) _⟩
            · rw [← ilA_set]; exact HK.out.set i _
            · have := HD.out.step HIN.out HGD.out (fun e => HL0.out (by rw [← HLE.out, e]; rfl)) HP2.out
              unfold dnew at this
              rw [hx, ← hdl] at this
              exact this)
          clear hx hdl HDD HK
          go_wp2_with fail
          go_roundw
          case rel => exact ⟨i + 1, by go_num, hide ⟨by have := HIN.out; omega, _, HE.out.1, HE.out.2.1, HE.out.2.2⟩⟩
          case measure => simp [intOf]; have := HIN.out; omega
theorem lst_setB {w : World} {L : Nat} {cs : Array Value} {t : TypeId} {a : Option Addr} {l : List Int} (h : Lst w a l) (hk : Blk w L cs t) (j : Nat) (hj : ∀ x, cs[j]? ≠ some (.int .i64 x)) (v : Value) : Lst (w.setCell ⟨L, j, none⟩ v) a l := by
  rcases h with h | ⟨b, o, h1, h2, h3⟩
  · exact Or.inl h
  · refine Or.inr ⟨b, o, h1, by simpa [World.setCell] using h2, fun i hi => ?_⟩
    rw [World.cell?_setCell_other]
    · exact h3 i hi
    · intro e
      have hx := h3 i hi
      rw [← e, hk.cell j] at hx
      exact hj _ hx
def RRel (gs : List ByteArray) (g n k : Nat) (w : World) : Prop := ∃ cur, Blk w g cur 23 ∧ cur.size = n ∧ (∀ (j : Nat) (x : Int), cur[j]? ≠ some (Value.int .i64 x)) ∧ ∀ i, i < k → (gpV gs.length (gs.getD i ⟨#[]⟩)).isSome = true ∧ ∃ pa c, cur[i]? = some (.slice pa (qf gs i).length c) ∧ Lst w pa (G10.ints (qf gs i))
theorem RRel.below {gs : List ByteArray} {g n k : Nat} {w w' : World} (h : RRel gs g n k w) (hb : Below w.heap.size w w') : RRel gs g n k w' := by
  obtain ⟨cur, h1, h2, h0, h3⟩ := h
  refine ⟨cur, h1.below hb, h2, h0, fun i hi => ?_⟩
  obtain ⟨h4, pa, c, h5, h6⟩ := h3 i hi
  exact ⟨h4, pa, c, h5, h6.below hb⟩
theorem RRel.put {gs : List ByteArray} {g n k : Nat} {w : World} (h : RRel gs g n k w) (hk : k < n) (hs : (gpV gs.length (gs.getD k ⟨#[]⟩)).isSome = true) {pa : Option Addr} {c : Nat} (hl : Lst w pa (G10.ints (qf gs k))) : RRel gs g n (k + 1) (w.setCell ⟨g, k, none⟩ (.slice pa (qf gs k).length c)) := by
  obtain ⟨cur, h1, h2, h0, h3⟩ := h
  refine ⟨_, h1.set k _, by simpa using h2, fun j x => ?_, fun i hi => ?_⟩
  · by_cases hj : k = j
    · subst hj
      rw [Array.getElem?_setIfInBounds_self_of_lt (by omega)]
      simp
    · rw [Array.getElem?_setIfInBounds_ne hj]
      exact h0 j x
  · rcases Nat.lt_or_ge i k with hik | hik
    · obtain ⟨h4, pa', c', h5, h6⟩ := h3 i hik
      exact ⟨h4, pa', c', by rw [Array.getElem?_setIfInBounds_ne (by omega)]; exact h5, lst_setB h6 h1 k (h0 k) _⟩
    · obtain rfl : i = k := by omega
      exact ⟨hs, pa, c, by rw [Array.getElem?_setIfInBounds_self_of_lt (by omega)], lst_setB hl h1 i (h0 i) _⟩
set_option maxRecDepth 8000 in
set_option maxHeartbeats 4000000 in
theorem rparts_any (a : Option Addr) (n c : Nat) (gs : List ByteArray) (w : World) (hn : gs.length = n) (h2 : n ≤ 4096) (hz : ∀ g ∈ gs, g.size ≤ 1000000) (hL : G10.SLst w a gs) :
    Calls Tryd.prog 24 #[.slice a n c] w (CpR w gs n) := by
  have h2' : (n : Int) ≤ 4096 := by omega
  have MK := make_iss n (by omega)
  have HN := hide hn
  have HZ := hide hz
  have HL := hide hL
  have k0 := Blk.new w (Array.replicate n (.slice none 0 0)) 23
  have b0 := (Below.refl w.heap.size w).alloc (Nat.le_refl _) (.cells (Array.replicate n (.slice none 0 0)) 23)
  have HS0 := hide (show RRel gs w.heap.size n 0 (w.alloc (.cells (Array.replicate n (.slice none 0 0)) 23)) ∧ Below w.heap.size w (w.alloc (.cells (Array.replicate n (.slice none 0 0)) 23)) from ⟨⟨_, k0, by simp, fun j x => by rw [Array.getElem?_replicate]; split <;> simp, fun i hi => by omega⟩, b0⟩)
  clear hn hz hL k0 b0 h2
  go_enter Tryd.func24, Tryd.ntmps24
  go_wp2_with fail
  go_loopw [5] (fun vi wr => ∃ k : Nat, vi = .int .i64 (k : Int) ∧ Hid (k ≤ n ∧ RRel gs w.heap.size n k wr ∧ Below w.heap.size w wr)) (fun vi _ => n - (intOf vi).toNat)
  case atStart => exact ⟨0, rfl, hide ⟨by omega, HS0.out.1, HS0.out.2⟩⟩
  case round =>
    clear HS0 MK
    obtain ⟨k, rfl, HV⟩ := hrel
    obtain ⟨hk, hC, hbw⟩ := HV.out
    have hk0 : (0 : Int) ≤ (k : Int) := by omega
    clear HV
    by_cases hlt : k < n
    case neg =>
      obtain rfl : n = k := by omega
      have hlt' : ¬ (n : Int) < (n : Int) := by omega
      have HE := hide (show CpR w gs n (.returned (.tuple #[.slice (some ⟨w.heap.size, 0, none⟩) n n, .bool true])) wr from by
        obtain ⟨cur, h1, h2, h0, h3⟩ := hC
        refine ⟨hbw, Or.inr ⟨_, okC_yes (fun i hi => (h3 i (by rw [← HN.out]; exact hi)).1), _, rfl, ?_⟩⟩
        refine Or.inr ⟨w.heap.size, 0, rfl, h1.lt, fun i ps hi => ?_⟩
        rw [List.getElem?_map] at hi
        obtain ⟨j, hj, rfl⟩ := Option.map_eq_some_iff.1 hi
        have hjl := (List.getElem?_eq_some_iff.1 hj)
        obtain ⟨hjl, hje⟩ := hjl
        rw [List.getElem_range] at hje
        subst hje
        have hin : i < n := by rw [← HN.out]; simpa using hjl
        obtain ⟨_, pa, c, h5, h6⟩ := h3 i hin
        exact ⟨pa, c, by rw [Nat.zero_add, h1.cell i]; exact h5, h6⟩)
      clear hC hbw hk hlt
      go_wp2_with fail
      go_ret2
      exact HE.out
    have hlt' : (k : Int) < (n : Int) := by omega
    obtain ⟨b, o, rfl, hbl, hcell⟩ : ∃ b o, a = some ⟨b, o, none⟩ ∧ b < w.heap.size ∧ ∀ i, i < gs.length → w.cell? ⟨b, o + i, none⟩ = some (.string (gs.getD i ⟨#[]⟩)) := by
      rcases HL.out with hz | h
      · have := HN.out
        rw [hz] at this; simp at this; omega
      · exact h
    obtain ⟨s, hs⟩ : ∃ s, gs.getD k ⟨#[]⟩ = s := ⟨_, rfl⟩
    have c0 := hcell k (by rw [HN.out]; exact hlt)
    rw [← hbw.cell (p := ⟨b, o + k, none⟩) hbl, hs] at c0
    have hss : s.size ≤ 1000000 := by
      rw [← hs, List.getD_eq_getElem?_getD, List.getElem?_eq_getElem (by rw [HN.out]; exact hlt)]
      exact HZ.out _ (List.getElem_mem _)
    have CP := hide (G10.rof_any s wr hss)
    have hblw : b < wr.heap.size := Nat.lt_of_lt_of_le hbl hbw.size
    have HC := hide hC
    have HBW := hide hbw
    have HS := hide hs
    have hkl : k < gs.length := by rw [HN.out]; exact hlt
    have HKL := hide hkl
    clear hcell hC hbw hk hs hss hkl
    cases hR : G10.shV s.data.toList with
    | none =>
      have HE := hide (show cpV gs = none from okC_no HKL.out (by rw [HS.out]; unfold gpV; rw [hR]))
      rw [hR] at CP
      unfold G10.OfR at CP
      dsimp only at CP
      clear hR
      go_wp2_with fail
      refine CP.out.mono ?_
      rintro e w1 ⟨p, a1, n1, c1, a2, n2, c2, hp, rfl, h1⟩
      have HB1 := hide (below_t5 HBW.out h1)
      have HE2 := hide (HB1.out.alloc HB1.out.size (.cells #[.int .i64 (p : Int), .slice a1 n1 c1, .slice a2 n2 c2] 85))
      clear h1 c0
      go_wp2_with fail
      go_ret2
      exact ⟨HE2.out, Or.inl ⟨HE.out, rfl⟩⟩
    | some r =>
      obtain ⟨p, ps⟩ := r
      obtain ⟨qs, hqs⟩ : ∃ q, G10.prV s.data.toList ps = q := ⟨_, rfl⟩
      have hql : qs.length ≤ 64 := by rw [← hqs]; unfold G10.prV; rw [List.length_map]; exact (G10.shV_bd hR).2.2
      have hpl : ps.length = qs.length := by rw [← hqs]; unfold G10.prV; rw [List.length_map]
      rw [hR] at CP
      unfold G10.OfR at CP
      dsimp only at CP
      rw [hqs, hpl] at CP
      have hgp : gpV gs.length (gs.getD k ⟨#[]⟩) = if qs.all (fun q => decide (q < gs.length)) then some qs else none := by rw [HS.out]; unfold gpV; rw [hR]; simp only [hqs]
      have HGP := hide hgp
      have hil : (G10.ints qs).length = qs.length := by unfold G10.ints; rw [List.length_map]
      have HIL := hide hil
      have hi0 : ∀ j, (G10.ints qs).getD j 0 = ((qs.getD j 0 : Nat) : Int) := fun j => by
        unfold G10.ints
        rw [List.getD_eq_getElem?_getD, List.getElem?_map, List.getD_eq_getElem?_getD]
        cases qs[j]? <;> rfl
      have HI0 := hide hi0
      obtain ⟨ql, hqe⟩ : ∃ q, qs.length = q := ⟨_, rfl⟩
      rw [hqe] at CP hql
      have HQE := hide hqe
      have hql' : (ql : Int) ≤ 64 := by omega
      clear hR hgp hqs hil hi0 hpl hqe
      go_wp2_with fail
      refine CP.out.mono ?_
      rintro e w1 ⟨a1, c1, a2, c2, rfl, hl1, hl2, h1⟩
      have HB1 := hide (below_t5 HBW.out h1)
      have hk2 := Blk.new w1 #[.int .i64 (p : Int), .slice a1 ql c1, .slice a2 ql c2] 85
      have he2 := (Below.refl w1.heap.size w1).alloc (Nat.le_refl _) (.cells #[.int .i64 (p : Int), .slice a1 ql c1, .slice a2 ql c2] 85)
      have HL1 := hide hl1
      have HC1 := hide (HC.out.below h1)
      clear h1 c0 hl1 hl2 HC CP
      go_upto_region 8 with (fail)
      generalize w1.alloc (.cells #[.int .i64 (p : Int), .slice a1 ql c1, .slice a2 ql c2] 85) = W2 at hk2 he2 ⊢
      have HC2 := hide (HC1.out.below he2)
      have HL2 := hide (HL1.out.below he2)
      have HB2 := hide (below_t5 HB1.out he2)
      have x1 := hk2.cell 1
      simp at x1
      have xlt := hk2.lt
      clear hk2 he2 HC1 HL1 HB1 HBW
      go_wp2_with fail
      go_loopw [8] (fun vj wq => ∃ j : Nat, vj = .int .i64 (j : Int) ∧ Hid (wq = W2 ∧ j ≤ ql ∧ ∀ i, i < j → qs.getD i 0 < n)) (fun vj _ => ql - (intOf vj).toNat)
      case atStart => exact ⟨0, rfl, hide ⟨rfl, by omega, fun i hi => by omega⟩⟩
      case round =>
        obtain ⟨j, rfl, HV⟩ := hrel
        obtain ⟨hw, hj, hall⟩ := HV.out
        replace hw := hw.symm
        subst hw
        have hj0 : (0 : Int) ≤ (j : Int) := by omega
        have HALL := hide hall
        clear HV hall
        by_cases hjl : j < ql
        · have hjl' : (j : Int) < (ql : Int) := by omega
          obtain ⟨pb, po, rfl, hpb, hpc⟩ : ∃ pb po, a1 = some ⟨pb, po, none⟩ ∧ pb < W2.heap.size ∧ W2.cell? ⟨pb, po + j, none⟩ = some (.int .i64 ((qs.getD j 0 : Nat) : Int)) := by
            rcases HL2.out with hz | ⟨pb, po, h1, h2, h3⟩
            · have := HIL.out
              rw [hz, HQE.out] at this; simp at this; omega
            · exact ⟨pb, po, h1, h2, by rw [h3 j (by rw [HIL.out, HQE.out]; exact hjl), HI0.out]⟩
          obtain ⟨q, hq⟩ : ∃ q, qs.getD j 0 = q := ⟨_, rfl⟩
          rw [hq] at hpc
          have hq0 : (0 : Int) ≤ (q : Int) := by omega
          have HQ := hide hq
          clear hq
          by_cases hqn : q < n
          · have hqn' : ¬ (n : Int) ≤ (q : Int) := by omega
            have HA2 := hide (show ∀ i, i < j + 1 → qs.getD i 0 < n from fun i hi => by
              rcases Nat.lt_or_ge i j with h | h
              · exact HALL.out i h
              · rw [show i = j by omega, HQ.out]; exact hqn)
            clear hqn
            go_wp2_with fail
            go_roundw
            case rel => exact ⟨j + 1, by go_num, hide ⟨by first | rfl | trivial, by omega, HA2.out⟩⟩
            case measure => simp [intOf]; omega
          · have hqn' : (n : Int) ≤ (q : Int) := by omega
            have HE := hide (show cpV gs = none from okC_no HKL.out (by
              rw [HGP.out, if_neg]
              intro h
              have := List.all_eq_true.1 h q (by
                rw [← HQ.out, List.getD_eq_getElem?_getD, List.getElem?_eq_getElem (by rw [HQE.out]; exact hjl)]
                exact List.getElem_mem _)
              rw [HN.out] at this
              simp at this
              exact hqn this))
            clear hqn
            go_wp2_with fail
            go_ret2
            exact ⟨HB2.out, Or.inl ⟨HE.out, rfl⟩⟩
        · have hjl' : ¬ (j : Int) < (ql : Int) := by omega
          have hgp : gpV gs.length (gs.getD k ⟨#[]⟩) = some qs := by
            rw [HGP.out, if_pos]
            rw [List.all_eq_true]
            intro q hq
            obtain ⟨i, hi, rfl⟩ := List.getElem_of_mem hq
            have := HALL.out i (by rw [HQE.out] at hi; omega)
            rw [List.getD_eq_getElem?_getD, List.getElem?_eq_getElem hi] at this
            rw [HN.out]
            simpa using this
          have hqf : qf gs k = qs := by unfold qf; rw [hgp]; rfl
          have hput := HC2.out.put (c := c1) (by omega) (by rw [hgp]; rfl) (pa := a1) (by rw [hqf]; exact HL2.out)
          rw [hqf, HQE.out] at hput
          have HPUT := hide (And.intro hput (HB2.out.setCell (p := ⟨w.heap.size, k, none⟩) (Nat.le_refl _) (.slice a1 ql c1)))
          obtain ⟨cur, hcb, hcs, hcn, _⟩ := HC2.out
          obtain ⟨v0, hv0⟩ : ∃ v, cur[k]? = some v := ⟨_, Array.getElem?_eq_getElem (by omega)⟩
          have oc := hcb.cell k
          rw [hv0] at oc
          have ofz := hcb.frozen k
          have olt := hcb.lt
          clear hgp hqf hput hcb hcs hcn hv0 HC2
          go_wp2_with fail
          go_roundw
          case rel => exact ⟨k + 1, by go_num, hide ⟨by omega, HPUT.out.1, HPUT.out.2⟩⟩
          case measure => simp [intOf]; omega
end Go.Proofs.YthnpnkiomknkeaaDoor.F12
