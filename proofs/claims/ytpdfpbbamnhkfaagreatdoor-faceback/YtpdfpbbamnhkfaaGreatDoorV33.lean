/-
  Joined: F12C, F12D.
-/
import Derived.Lib.SlBuf
import Derived.Test.YtpdfpbbamnhkfaaGreatDoorV06
import Derived.Test.YtpdfpbbamnhkfaaGreatDoorV27
namespace Go.Proofs.YtpdfpbbamnhkfaaGreatDoor.F12
open Go.RowKit Go.Deep
set_option linter.unusedVariables false
set_option linter.unusedSimpArgs false
section
variable {P : Program} {md : Region.Mode} {ops : Array Oper} {Q : Exit → Act → World → Prop} {S : World → Prop}
theorem takeW {i d : Nat} {oi : Oper} {v : Value} {fuel : Nat} {listed : Array Bool} {a : Act} {w : World} (hi : ops[i]? = some oi) (hd : oi.dst = some d)
    (hs : Region.noSelect ops = true) (hf : Region.free md ops listed i = true) (hr : (Region.ready md ops listed).contains i = true)
    (hQ : ∀ c a w, Q (.panic c) (a.put (some d) v) w → Q (.panic c) a w) (hw : Region.wanted oi (yielded ops a.tmps) = true) (hy : ∀ w, S w → (execOp a.eval oi).run P w = .ok (.value v) w) (hS : S w)
    (h : wpAnyH P md ops Q S fuel (listed.setIfInBounds i true) (a.put (some d) v) w) : wpAnyH P md ops Q S (fuel + 1) listed a w :=
  wpAnyH_take hi hs hf hr (by rw [hd]; exact hQ) (Or.inl ⟨hw, hy⟩) hS (by rw [hd]; exact h)
end
theorem info_bool : (Tryz.prog.info? 4).map (fun i => (i.zero, i.size, i.bytes)) = some (some (.bool false), 1, 1) := by kernel_rfl
theorem make_bools (n : Nat) (hn : n ≤ 100000) (x : World) : (Instr.makeSlice 111 (.int .i64 (n : Int)) (.int .i64 (n : Int))).run Tryz.prog x = .ok (.slice (some ⟨x.heap.size, 0, none⟩) n n) (x.alloc (.cells (Array.replicate n (.bool false)) 4)) := by
  obtain ⟨i0, hi, hz0, hz1, hz2⟩ := info_parts5 info_bool
  have h := run_make (P := Tryz.prog) x 111 4 i0 (.bool false) Tryz.underlying111 hi hz0 .i64 .i64 n n (by omega) (Int.le_refl _) (by rw [hz2]; omega) (by omega)
  rw [hz1] at h
  simp only [Int.toNat_natCast, Nat.mul_one] at h
  have e : madeCells (Value.bool false).cells n = Array.replicate n (.bool false) := by
    apply Array.ext (by simp [madeCells])
    intro j h1 h2
    simp [madeCells, Value.cells, Nat.mod_one]
  rw [e] at h
  exact h
theorem bls_zero (f : Nat → Bool) (n : Nat) : bls f n 0 = Array.replicate n (.bool false) := G10.arw_zero _ _ _
theorem bls_size (f : Nat → Bool) (n k : Nat) : (bls f n k).size = n := G10.arw_size _ _ _ _
theorem bls_set (f : Nat → Bool) (n k : Nat) (h : k < n) : (bls f n k).setIfInBounds k (.bool (f k)) = bls f n (k + 1) := G10.arw_set (fun i => .bool (f i)) _ _ _ h
abbrev yes : Nat → Bool := fun _ => true
theorem yes_app (n k j : Nat) (h : k + j ≤ n) : ((bls yes n k).toList.take k ++ List.replicate j (Value.bool true) ++ (bls yes n k).toList.drop (k + j)).toArray = bls yes n (k + j) := by
  apply Array.ext_getElem?
  intro i
  have hl : (bls yes n k).toList.length = n := by rw [Array.length_toList, bls_size]
  rw [List.getElem?_toArray, List.getElem?_append, List.getElem?_append, List.length_append, List.length_take, List.length_replicate, hl, Nat.min_eq_left (by omega)]
  by_cases hi : i < n
  · rw [bls_at _ _ _ _ hi]
    by_cases h1 : i < k
    · rw [if_pos (by omega), if_pos h1, List.getElem?_take_of_lt h1, Array.getElem?_toList, bls_at _ _ _ _ hi, if_pos h1, if_pos (by omega)]
    · by_cases h2 : i < k + j
      · rw [if_pos h2, if_neg h1, List.getElem?_replicate, if_pos (by omega), if_pos h2]
      · rw [if_neg h2, List.getElem?_drop, Array.getElem?_toList, show k + j + (i - (k + j)) = i by omega, bls_at _ _ _ _ hi, if_neg h1, if_neg h2]
  · rw [if_neg (by omega), List.getElem?_drop, Array.getElem?_toList, Array.getElem?_eq_none (by rw [bls_size]; omega), Array.getElem?_eq_none (by rw [bls_size]; omega)]
theorem yes_copy {w : World} {g n k c1 c2 : Nat} (hb : Blk w g (bls yes n k) 4) (hk : k ≤ n) (sa : Addr) (sl : Nat) (hs : ∀ j, j < sl → w.cell? (sa.add j) = some (.bool true)) :
    ∃ w2, (Builtin.copy_ #[111, 111] 3 #[.slice (some ⟨g, k, none⟩) (n - k) c1, .slice (some sa) sl c2]).run Tryz.prog w = .ok (.int .i64 ((min sl (n - k) : Nat) : Int)) w2 ∧ Blk w2 g (bls yes n (k + min sl (n - k))) 4 ∧ Below g w w2 := by
  obtain ⟨i0, hi, hz0, hz1, hz2⟩ := info_parts5 info_bool
  have hr := run_copy_row (P := Tryz.prog) w 111 111 3 4 g k (n - k) c1 sa sl c2 (bls yes n k) 4 (List.replicate (min sl (n - k)) (.bool true)) Tryz.underlying111 (by rw [hi]; simp [hz1]) hb (by rw [List.length_replicate])
    (fun j v hv => by
      rw [List.getElem?_replicate] at hv
      split at hv
      · rename_i hj
        rw [← Option.some.inj hv]
        exact hs j (by omega)
      · cases hv) (by rw [List.length_replicate, bls_size]; omega) (fun v hv => by rw [List.eq_of_mem_replicate hv]; rfl)
  rw [List.length_replicate, yes_app n k _ (by omega)] at hr
  refine ⟨_, hr, setRow_heap _ _ _ _ _ _ hb, ⟨rfl, rfl, rfl, by simp, fun j hj => setRow_other _ _ _ _ (by omega)⟩⟩
set_option maxRecDepth 100000 in
theorem mul_one (n : Nat) (w : World) (hn : n ≤ 1000000) : Calls Tryz.prog 118 #[.int .u64 1, .int .u64 (n : Int)] w fun e w' => e = .returned (.tuple #[.int .u64 0, .int .u64 (n : Int)]) ∧ w' = w := by
  have C := hide (show Calls Tryz.prog 156 #[.int .u64 1, .int .u64 (n : Int)] w fun e w' => e = .returned (.tuple #[.int .u64 0, .int .u64 (n : Int)]) ∧ w' = w by
    have h := mul64_any 1 n (by decide +kernel) (Nat.lt_of_le_of_lt hn (by decide +kernel)) w
    obtain ⟨D, hD⟩ : ∃ D, D = 1 * n / 18446744073709551616 := ⟨_, rfl⟩
    obtain ⟨M, hM⟩ : ∃ M, M = 1 * n % 18446744073709551616 := ⟨_, rfl⟩
    rw [← hD, ← hM] at h
    have eD : D = 0 := by rw [hD]; exact Nat.div_eq_of_lt (by omega)
    have eM : M = n := by rw [hM, Nat.one_mul]; exact Nat.mod_eq_of_lt (by omega)
    subst eD eM
    exact h)
  have hn' : (n : Int) ≤ 1000000 := by omega
  go_enter Tryz.func118, Tryz.ntmps118
  go_wp2_with fail
  refine C.out.mono ?_
  rintro e w' ⟨rfl, hw'⟩
  replace hw' := hw'.symm
  subst hw'
  go_wp2_with fail
  go_ret2
  exact ⟨rfl, rfl⟩
set_option maxRecDepth 8000 in
set_option maxHeartbeats 2000000 in
theorem repeat_any (x n c : Nat) (w : World) (h1 : 1 ≤ n) (hn : n ≤ 4096) (hx : w.cell? ⟨x, 0, none⟩ = some (.bool true)) (hxl : x < w.heap.size) :
    Calls Tryz.prog 66 #[.slice (some ⟨x, 0, none⟩) 1 c, .int .i64 (n : Int)] w fun e w' => e = .returned (.slice (some ⟨w.heap.size, 0, none⟩) n n) ∧ Blk w' w.heap.size (bls yes n n) 4 ∧ Below w.heap.size w w' := by
  have CM := hide (mul_one n w (by omega))
  have MK := make_bools n (by omega)
  have hn' : (n : Int) ≤ 4096 := by omega
  have hn0 : ¬ (n : Int) < 0 := by omega
  have hn1 : (1 : Int) ≤ (n : Int) := by omega
  have k0 : Blk (w.alloc (.cells (Array.replicate n (.bool false)) 4)) w.heap.size (bls yes n 0) 4 := by rw [bls_zero]; exact Blk.new w _ _
  have b0 : Below w.heap.size w (w.alloc (.cells (Array.replicate n (.bool false)) 4)) := (Below.refl _ _).alloc (Nat.le_refl _) _
  obtain ⟨w2, hcp, k2, b2⟩ := yes_copy (c1 := n) (c2 := c) k0 (by omega) ⟨x, 0, none⟩ 1 (fun j hj => by
    obtain rfl : j = 0 := by omega
    rw [Go.WideShapes.add_plain, b0.cell (p := ⟨x, 0 + 0, none⟩) hxl]
    exact hx)
  rw [Nat.sub_zero, show min 1 n = 1 by omega, Nat.zero_add] at *
  have HCP := hide hcp
  have HK2 := hide k2
  have HB2 := hide (b0.trans b2)
  obtain ⟨gb, hgb⟩ : ∃ g, w.heap.size = g := ⟨_, rfl⟩
  have HGB := hide hgb
  clear hcp k2 b2 k0 b0 hx hxl
  rw [hgb] at HCP HK2 ⊢
  go_enter Tryz.func66, Tryz.ntmps66
  go_wp2_with (go_at_call 118; refine CM.out.mono ?_; rintro e w' ⟨rfl, hw'⟩; replace hw' := hw'.symm; subst hw')
  rw [HCP.out]
  simp only [Result.andThen]
  rw [Oper.upon_value]
  go_wp2_with fail
  go_loopw [8] (fun vk wr => ∃ k : Nat, vk = .int .i64 (k : Int) ∧ Hid (1 ≤ k ∧ k ≤ n ∧ Blk wr gb (bls yes n k) 4 ∧ Below w.heap.size w wr)) (fun vk _ => n - (intOf vk).toNat)
  case atStart => exact ⟨1, rfl, hide ⟨by omega, by omega, HK2.out, HB2.out⟩⟩
  case round =>
    clear HCP HK2 HB2 MK
    obtain ⟨k, rfl, HV⟩ := hrel
    obtain ⟨hk1, hk, hkb, hbw⟩ := HV.out
    have hk0 : (0 : Int) ≤ (k : Int) := by omega
    clear HV
    by_cases hlt : k < n
    case neg =>
      obtain rfl : n = k := by omega
      have hlt' : ¬ (n : Int) < (n : Int) := by omega
      have HE := hide (And.intro hkb hbw)
      clear hkb hbw hk hk1 hlt
      go_wp2_with fail
      go_ret
      exact ⟨rfl, HE.out.1, by have h9 := HE.out.2; rwa [HGB.out] at h9⟩
    have hlt' : (k : Int) < (n : Int) := by omega
    obtain ⟨w3, hcp, k3, b3⟩ := yes_copy (w := wr.drew) (c1 := n - k) (c2 := n) hkb hk ⟨gb, 0, none⟩ k (fun j hj => by
      rw [Go.WideShapes.add_plain, Nat.zero_add]
      have := hkb.cell j
      rw [bls_at _ _ _ _ (by omega), if_pos hj] at this
      exact this)
    obtain ⟨M, hM⟩ : ∃ M, min k (n - k) = M := ⟨_, rfl⟩
    rw [hM] at hcp k3
    have hM1 : 1 ≤ M := by omega
    have hM2 : k + M ≤ n := by omega
    have hMi : (k : Int) + (M : Int) ≤ (n : Int) := by omega
    have HCP := hide hcp
    have HK3 := hide k3
    have HB3 := hide (hbw.trans ((show Below gb wr w3 from ⟨b3.os, b3.tape, b3.output, b3.size, b3.block⟩).mono (Nat.le_of_eq HGB.out)))
    clear hcp k3 b3 hkb hbw hM
    go_wp2_with fail
    refine wp_region_held_drew (S := (fun _ => True)) (by kernel_rfl) trivial (fun _ => ?_)
    refine takeW (i := 0) (d := 38) (v := .int .i64 (k : Int)) rfl rfl (by kernel_rfl) (by kernel_rfl) (by kernel_rfl) (fun _ _ _ h => h) (by rfl) ?_ trivial ?_
    · intro x9 _
      go_simp
    simp only [Act.put, List.setIfInBounds_toArray, List.set_cons_zero, List.set_cons_succ]
    refine takeW (i := 1) (d := 39) (v := .slice (some ⟨gb, 0, none⟩) n n) rfl rfl (by kernel_rfl) (by kernel_rfl) (by kernel_rfl) (fun _ _ _ h => h) (by rfl) ?_ trivial ?_
    · intro x9 _
      go_simp
    simp only [Act.put, List.setIfInBounds_toArray, List.set_cons_zero, List.set_cons_succ]
    refine takeW (i := 2) (d := 40) (v := .int .i64 (k : Int)) rfl rfl (by kernel_rfl) (by kernel_rfl) (by kernel_rfl) (fun _ _ _ h => h) (by rfl) ?_ trivial ?_
    · intro x9 _
      go_simp
    simp only [Act.put, List.setIfInBounds_toArray, List.set_cons_zero, List.set_cons_succ]
    refine takeW (i := 3) (d := 41) (v := .slice (some ⟨gb, k, none⟩) (n - k) (n - k)) rfl rfl (by kernel_rfl) (by kernel_rfl) (by kernel_rfl) (fun _ _ _ h => h) (by rfl) ?_ trivial ?_
    · intro x9 _
      go_simp
      omega
    simp only [Act.put, List.setIfInBounds_toArray, List.set_cons_zero, List.set_cons_succ]
    refine takeW (i := 4) (d := 42) (v := .slice (some ⟨gb, 0, none⟩) n n) rfl rfl (by kernel_rfl) (by kernel_rfl) (by kernel_rfl) (fun _ _ _ h => h) (by rfl) ?_ trivial ?_
    · intro x9 _
      go_simp
    simp only [Act.put, List.setIfInBounds_toArray, List.set_cons_zero, List.set_cons_succ]
    refine takeW (i := 5) (d := 43) (v := .int .i64 (k : Int)) rfl rfl (by kernel_rfl) (by kernel_rfl) (by kernel_rfl) (fun _ _ _ h => h) (by rfl) ?_ trivial ?_
    · intro x9 _
      go_simp
    simp only [Act.put, List.setIfInBounds_toArray, List.set_cons_zero, List.set_cons_succ]
    refine takeW (i := 6) (d := 44) (v := .slice (some ⟨gb, 0, none⟩) k n) rfl rfl (by kernel_rfl) (by kernel_rfl) (by kernel_rfl) (fun _ _ _ h => h) (by rfl) ?_ trivial ?_
    · intro x9 _
      go_simp
    simp only [Act.put, List.setIfInBounds_toArray, List.set_cons_zero, List.set_cons_succ]
    refine wpAnyH_ready (rs := [7]) (by kernel_rfl) (by simp) ?_
    refine AllReadyH.cons rfl (fun K hK => ?_) AllReadyH.nil
    rw [if_pos (by rfl)]
    refine Lib.wp_copy_run _ _ _ _ _ rfl _ _ rfl rfl HCP.out ?_
    refine hK.out _ _ trivial (fun _ => ?_)
    simp only [List.getElem_toArray, List.getElem_cons_succ, List.getElem_cons_zero, Act.put, List.setIfInBounds_toArray, List.set_cons_zero, List.set_cons_succ]
    clear hK K
    refine takeW (i := 8) (d := 46) (v := .int .i64 ((k + M : Nat) : Int)) rfl rfl (by kernel_rfl) (by kernel_rfl) (by kernel_rfl) (fun _ _ _ h => h) (by rfl) ?_ trivial ?_
    · intro x9 _
      go_simp
      rw [IntKind.wrap_i64]; omega
    simp only [Act.put, List.setIfInBounds_toArray, List.set_cons_zero, List.set_cons_succ]
    refine takeW (i := 9) (d := 8) (v := .int .i64 ((k + M : Nat) : Int)) rfl rfl (by kernel_rfl) (by kernel_rfl) (by kernel_rfl) (fun _ _ _ h => h) (by rfl) ?_ trivial ?_
    · intro x9 _
      go_simp
    simp only [Act.put, List.setIfInBounds_toArray, List.set_cons_zero, List.set_cons_succ]
    refine wpAnyH_done (by kernel_rfl) ?_ _
    go_wp2_with fail
    go_roundw
    case rel => exact ⟨k + M, by go_num, hide ⟨by omega, hM2, HK3.out, HB3.out⟩⟩
    case measure => simp [intOf]; omega
def PLst (w : World) (a : Option Addr) (pss : List (List Nat)) : Prop := pss = [] ∨ ∃ b o, a = some ⟨b, o, none⟩ ∧ b < w.heap.size ∧ ∀ i ps, pss[i]? = some ps → ∃ pa c, w.cell? ⟨b, o + i, none⟩ = some (.slice pa ps.length c) ∧ Lst w pa (G10.ints ps)
def dpV (pss : List (List Nat)) : Nat → Nat → Bool
  | 0, _ => true
  | k + 1, i => (pss.getD i []).any (dpV pss k)
def deepB (pss : List (List Nat)) : Bool := (List.range pss.length).any (dpV pss 9)
set_option maxRecDepth 8000 in
set_option maxHeartbeats 4000000 in
theorem tooDeep_any (a : Option Addr) (n c : Nat) (pss : List (List Nat)) (w : World) (hn : pss.length = n) (h1 : 1 ≤ n) (h2 : n ≤ 4096) (hp : ∀ ps ∈ pss, ps.length ≤ 1000000 ∧ ∀ p ∈ ps, p < n) (hL : PLst w a pss) :
    Calls Tryz.prog 32 #[.slice a n c] w fun e w' => e = .returned (.bool (deepB pss)) ∧ Below w.heap.size w w' := by
  have h2' : (n : Int) ≤ 4096 := by omega
  have h1' : (1 : Int) ≤ (n : Int) := by omega
  obtain ⟨R, hR⟩ : ∃ R, deepB pss = R := ⟨_, rfl⟩
  rw [hR]
  have HR := hide hR
  have HN := hide hn
  have HP := hide hp
  have H12 := hide (And.intro h1 h2)
  have HL := hide hL
  have MK := make_bools n (by omega)
  have k0 := Blk.new w #[.bool true] 4
  have b0 := (Below.refl w.heap.size w).alloc (Nat.le_refl _) (.cells #[.bool true] 4)
  have CR := hide (repeat_any w.heap.size n 1 (w.alloc (.cells #[.bool true] 4)) h1 h2 (k0.cell 0) k0.lt)
  have HB0 := hide b0
  clear hL hn hp h1 h2 hR k0 b0
  go_enter Tryz.func32, Tryz.ntmps32
  go_wp2_with fail
  generalize w.alloc (.cells #[.bool true] 4) = V0 at CR HB0 ⊢
  refine CR.out.mono ?_
  rintro e w1 ⟨rfl, hkg, h1⟩
  have kb1 := Blk.new w1 #[.slice (some ⟨V0.heap.size, 0, none⟩) n n] 111
  have bb1 := (Below.refl w1.heap.size w1).alloc (Nat.le_refl _) (.cells #[.slice (some ⟨V0.heap.size, 0, none⟩) n n] 111)
  have HS0 := hide (And.intro kb1 (And.intro (hkg.below bb1) (below_t5 (below_t5 HB0.out h1) bb1)))
  have hbx : w.heap.size ≤ w1.heap.size := (below_t5 HB0.out h1).size
  obtain ⟨bx, hbxe⟩ : ∃ b, w1.heap.size = b := ⟨_, rfl⟩
  have HBX := hide (And.intro hbx hbxe)
  have hty : ∀ {W : World} {b g : Nat} {cs ds : Array Value}, Blk W b cs 111 → Blk W g ds 4 → b ≠ g := fun {W b g cs ds} h h' e => by
    subst e
    unfold Blk at h h'
    rw [h] at h'
    injection h' with h'
    injection h' with _ h' _
    exact absurd h' (by decide)
  have HTY := hide (show ∀ (W : World) (b g : Nat) (cs ds : Array Value), Blk W b cs 111 → Blk W g ds 4 → b ≠ g from fun W b g cs ds h h' => hty h h')
  clear hty hkg h1 kb1 bb1 hbx
  go_wp2_with fail
  rw [hbxe] at HS0
  try rw [hbxe]
  clear hbxe
  go_loopw [11] (fun vi wr => ∃ k : Nat, vi = .int .i64 (k : Int) ∧ Hid (k ≤ 9 ∧ ∃ g, Blk wr bx #[.slice (some ⟨g, 0, none⟩) n n] 111 ∧ Blk wr g (bls (dpV pss k) n n) 4 ∧ Below w.heap.size w wr)) (fun vi _ => 9 - (intOf vi).toNat)
  case atStart => exact ⟨0, rfl, hide ⟨by omega, V0.heap.size, HS0.out.1, HS0.out.2.1, HS0.out.2.2⟩⟩
  case round =>
    clear HS0
    obtain ⟨k, rfl, HV⟩ := hrel
    obtain ⟨hk, g, hkb, hkg, hbw⟩ := HV.out
    have hk0 : (0 : Int) ≤ (k : Int) := by omega
    clear HV
    have c0 := hkb.cell 0
    simp at c0
    have blt := hkb.lt
    by_cases hlt : k < 9
    case neg =>
      obtain rfl : k = 9 := by omega
      have CC := hide (contains_any g n n (dpV pss 9) wr (by have := H12.out; omega) hkg)
      have E := hide (show (List.range n).any (dpV pss 9) = R by rw [← HR.out, ← HN.out]; rfl)
      rw [E.out] at CC
      have HB := hide hbw
      have hlt' : ¬ ((9 : Nat) : Int) < 9 := by omega
      clear hkb hkg hbw hk hlt MK
      go_wp2_with (go_at_call 69; refine CC.out.mono ?_; rintro e w2 ⟨rfl, hw2⟩; replace hw2 := hw2.symm; subst hw2)
      go_ret
      exact ⟨rfl, HB.out⟩
    have hlt' : (k : Int) < 9 := by omega
    have bn := (Below.refl wr.heap.size wr).alloc (Nat.le_refl _) (.cells (Array.replicate n (.bool false)) 4)
    have kn : Blk (wr.alloc (.cells (Array.replicate n (.bool false)) 4)) wr.heap.size (bls (dpV pss (k + 1)) n 0) 4 := by rw [bls_zero]; exact Blk.new wr _ _
    have HI := hide (And.intro (hkb.below bn) (And.intro (hkg.below bn) (And.intro kn (hbw.trans (bn.mono hbw.size)))))
    have hxn : bx ≠ wr.heap.size := by omega
    have hwn : w.heap.size ≤ wr.heap.size := hbw.size
    obtain ⟨gn, hgn⟩ : ∃ g, wr.heap.size = g := ⟨_, rfl⟩
    have HGN := hide (And.intro hxn (And.intro hwn hgn))
    have hglt := hkg.lt
    have HGL := hide (show g ≠ wr.heap.size by omega)
    clear hkb hkg hbw hk hlt bn kn hxn hwn hglt
    go_wp2_with fail
    rw [hgn] at HI HGL
    try rw [hgn]
    clear hgn c0 blt
    go_loopw [18] (fun vi wq => ∃ i : Nat, vi = .int .i64 (i : Int) ∧ Hid (i ≤ n ∧ Blk wq bx #[.slice (some ⟨g, 0, none⟩) n n] 111 ∧ Blk wq g (bls (dpV pss k) n n) 4 ∧ Blk wq gn (bls (dpV pss (k + 1)) n i) 4 ∧ Below w.heap.size w wq)) (fun vi _ => n - (intOf vi).toNat)
    case atStart => exact ⟨0, rfl, hide ⟨by omega, HI.out.1, HI.out.2.1, HI.out.2.2.1, HI.out.2.2.2⟩⟩
    case round =>
      clear HI MK
      obtain ⟨i, rfl, HV⟩ := hrel
      obtain ⟨hi, hkb, hkg, hkn, hbw⟩ := HV.out
      have hi0 : (0 : Int) ≤ (i : Int) := by omega
      clear HV
      have blt := hkb.lt
      have nlt := hkn.lt
      by_cases hin : i < n
      case neg =>
        obtain rfl : n = i := by omega
        have hin' : ¬ (n : Int) < (n : Int) := by omega
        have c0 := hkb.cell 0
        simp at c0
        have f0 := hkb.frozen 0
        have HE := hide (show Blk (wr.setCell ⟨bx, 0, none⟩ (.slice (some ⟨gn, 0, none⟩) n n)) bx #[.slice (some ⟨gn, 0, none⟩) n n] 111 ∧ Blk (wr.setCell ⟨bx, 0, none⟩ (.slice (some ⟨gn, 0, none⟩) n n)) gn (bls (dpV pss (k + 1)) n n) 4 ∧ Below w.heap.size w (wr.setCell ⟨bx, 0, none⟩ (.slice (some ⟨gn, 0, none⟩) n n)) from ⟨hkb.set 0 _, hkn.other (fun e => HTY.out _ _ _ _ _ hkb hkn e.symm) 0 _, hbw.setCell (p := ⟨bx, 0, none⟩) (show w.heap.size ≤ bx by have := HBX.out; omega) _⟩)
        clear hkb hkg hkn hbw hi hin
        go_wp2_with fail
        go_roundw
        case rel => exact ⟨k + 1, by go_num, hide ⟨by omega, gn, HE.out.1, HE.out.2.1, HE.out.2.2⟩⟩
        case measure => simp [intOf]; omega
      have hin' : (i : Int) < (n : Int) := by omega
      obtain ⟨b, o, rfl, hbl, hcell⟩ : ∃ b o, a = some ⟨b, o, none⟩ ∧ b < w.heap.size ∧ ∀ i ps, pss[i]? = some ps → ∃ pa c, w.cell? ⟨b, o + i, none⟩ = some (.slice pa ps.length c) ∧ Lst w pa (G10.ints ps) := by
        rcases HL.out with hz | h
        · have := HN.out
          rw [hz] at this; simp at this; omega
        · exact h
      obtain ⟨ps, hps⟩ : ∃ ps, pss[i]? = some ps := ⟨_, List.getElem?_eq_getElem (by rw [HN.out]; exact hin)⟩
      obtain ⟨pa, pc, hc1, hl1⟩ := hcell i ps hps
      rw [← hbw.cell (p := ⟨b, o + i, none⟩) hbl] at hc1
      obtain ⟨hp1, hp2⟩ := HP.out ps (List.mem_of_getElem? hps)
      have CC := hide (containsf_any pa ps.length pc bx g n n ps (dpV pss k) wr rfl hp1 hp2 (by have := H12.out; omega) (hl1.below hbw) hkb hkg)
      have hdp : ps.any (dpV pss k) = dpV pss (k + 1) i := by rw [dpV, List.getD_eq_getElem?_getD, hps]; rfl
      rw [hdp] at CC
      obtain ⟨dv, hdv⟩ : ∃ d, dpV pss (k + 1) i = d := ⟨_, rfl⟩
      rw [hdv] at CC
      have hblw : b < wr.heap.size := Nat.lt_of_lt_of_le hbl hbw.size
      have n0 := hkn.cell i
      rw [bls_at _ _ _ _ hin] at n0
      have nf := hkn.frozen i
      have hkn2 : Blk (wr.setCell ⟨gn, i, none⟩ (.bool dv)) gn (bls (dpV pss (k + 1)) n (i + 1)) 4 := by
        have := hkn.set i (.bool dv)
        rw [← hdv, bls_set _ _ _ hin, hdv] at this
        exact this
      have HE := hide (show Blk (wr.setCell ⟨gn, i, none⟩ (.bool dv)) bx #[.slice (some ⟨g, 0, none⟩) n n] 111 ∧ Blk (wr.setCell ⟨gn, i, none⟩ (.bool dv)) g (bls (dpV pss k) n n) 4 ∧ Below w.heap.size w (wr.setCell ⟨gn, i, none⟩ (.bool dv)) from ⟨hkb.other (HTY.out _ _ _ _ _ hkb hkn) i _, hkg.other HGL.out i _, hbw.setCell (p := ⟨gn, i, none⟩) (show w.heap.size ≤ gn by have := HGN.out; omega) _⟩)
      have HE2 := hide hkn2
      obtain ⟨pl, hpl⟩ : ∃ p, ps.length = p := ⟨_, rfl⟩
      have hpl' : (pl : Int) ≤ 1000000 := by omega
      rw [hpl] at hc1 CC
      clear hcell hps hl1 hdp hdv hkn2 hkb hkg hkn hbw hi hp1 hp2 hpl
      go_wp2_with (go_at_call 67; refine CC.out.mono ?_; rintro e w2 ⟨rfl, hw2⟩; replace hw2 := hw2.symm; subst hw2)
      go_roundw
      case rel => exact ⟨i + 1, by go_num, hide ⟨by omega, HE.out.1, HE.out.2.1, HE2.out, HE.out.2.2⟩⟩
      case measure => simp [intOf]; omega
end Go.Proofs.YtpdfpbbamnhkfaaGreatDoor.F12
namespace Go.Proofs.YtpdfpbbamnhkfaaGreatDoor.F12
open Go.RowKit Go.Deep
set_option linter.unusedVariables false
set_option linter.unusedSimpArgs false
def gpV (n : Nat) (g : ByteArray) : Option (List Nat) := match G10.shV g.data.toList with
  | some (_, ps) => if (G10.prV g.data.toList ps).all (fun q => decide (q < n)) then some (G10.prV g.data.toList ps) else none
  | none => none
def qf (gs : List ByteArray) (i : Nat) : List Nat := (gpV gs.length (gs.getD i ⟨#[]⟩)).getD []
def okC (gs : List ByteArray) : Bool := (List.range gs.length).all fun i => (gpV gs.length (gs.getD i ⟨#[]⟩)).isSome
def cpV (gs : List ByteArray) : Option (List (List Nat)) := if okC gs then some ((List.range gs.length).map (qf gs)) else none
theorem okC_no {gs : List ByteArray} {k : Nat} (hk : k < gs.length) (h : gpV gs.length (gs.getD k ⟨#[]⟩) = none) : cpV gs = none := by
  unfold cpV
  rw [if_neg]
  intro ho
  unfold okC at ho
  have := List.all_eq_true.1 ho k (List.mem_range.2 hk)
  rw [h] at this; cases this
theorem okC_yes {gs : List ByteArray} (h : ∀ i, i < gs.length → (gpV gs.length (gs.getD i ⟨#[]⟩)).isSome = true) : cpV gs = some ((List.range gs.length).map (qf gs)) := by
  unfold cpV
  rw [if_pos]
  unfold okC
  exact List.all_eq_true.2 fun i hi => h i (List.mem_range.1 hi)
theorem gp_bd {n : Nat} {g : ByteArray} {q : List Nat} (h : gpV n g = some q) : ∀ p ∈ q, p < n := by
  unfold gpV at h
  split at h
  · split at h
    · rename_i hh
      injection h with h
      subst h
      intro p hp
      simpa using List.all_eq_true.1 hh p hp
    · cases h
  · cases h
theorem max_ge : ∀ (r : List Int) (x N : Int), N ≤ r.foldl max x ↔ N ≤ x ∨ ∃ y ∈ r, N ≤ y
  | [], x, N => by simp
  | y :: r, x, N => by
    rw [List.foldl_cons, max_ge r]
    constructor
    · rintro (h | ⟨z, hz, h⟩)
      · rcases Int.le_total x y with h' | h'
        · exact Or.inr ⟨y, List.mem_cons_self, by omega⟩
        · exact Or.inl (by omega)
      · exact Or.inr ⟨z, List.mem_cons_of_mem _ hz, h⟩
    · rintro (h | ⟨z, hz, h⟩)
      · exact Or.inl (by omega)
      · rcases List.mem_cons.1 hz with rfl | hz
        · exact Or.inl (by omega)
        · exact Or.inr ⟨z, hz, h⟩
theorem max_ints (qs : List Nat) (n : Nat) (h : 0 < qs.length) : decide ((n : Int) ≤ maxV (G10.ints qs)) = !(qs.all fun q => decide (q < n)) := by
  match qs, h with
  | q :: r, _ =>
    have e : maxV (G10.ints (q :: r)) = (G10.ints r).foldl max (q : Int) := rfl
    rw [e, Bool.eq_iff_iff, decide_eq_true_eq, max_ge, Bool.not_eq_true', List.all_eq_false]
    constructor
    · rintro (h | ⟨y, hy, h⟩)
      · exact ⟨q, List.mem_cons_self, by simp; omega⟩
      · unfold G10.ints at hy
        obtain ⟨z, hz, rfl⟩ := List.mem_map.1 hy
        exact ⟨z, List.mem_cons_of_mem _ hz, by simp; omega⟩
    · rintro ⟨z, hz, h⟩
      have h : n ≤ z := by simpa using h
      rcases List.mem_cons.1 hz with rfl | hz
      · exact Or.inl (by omega)
      · exact Or.inr ⟨(z : Int), by unfold G10.ints; exact List.mem_map.2 ⟨z, hz, rfl⟩, by omega⟩
theorem info_ints : (Tryz.prog.info? 23).map (fun i => (i.zero, i.size, i.bytes)) = some (some (.slice none 0 0), 1, 24) := by kernel_rfl
theorem make_iss (n : Nat) (hn : n ≤ 100000) (x : World) : (Instr.makeSlice 62 (.int .i64 (n : Int)) (.int .i64 (n : Int))).run Tryz.prog x = .ok (.slice (some ⟨x.heap.size, 0, none⟩) n n) (x.alloc (.cells (Array.replicate n (.slice none 0 0)) 23)) := by
  obtain ⟨i0, hi, hz0, hz1, hz2⟩ := info_parts5 info_ints
  have h := run_make (P := Tryz.prog) x 62 23 i0 (.slice none 0 0) Tryz.underlying62 hi hz0 .i64 .i64 n n (by omega) (Int.le_refl _) (by rw [hz2]; omega) (by omega)
  rw [hz1] at h
  simp only [Int.toNat_natCast, Nat.mul_one] at h
  have e : madeCells (Value.slice none 0 0).cells n = Array.replicate n (.slice none 0 0) := by
    apply Array.ext (by simp [madeCells])
    intro j h1 h2
    simp [madeCells, Value.cells, Nat.mod_one]
  rw [e] at h
  exact h
def LN (w : World) (g : Nat) (pa : Option Addr) (zs : List Int) : Prop := zs = [] ∨ ∃ b, pa = some ⟨b, 0, none⟩ ∧ g < b ∧ b < w.heap.size ∧ ∀ i, i < zs.length → w.cell? ⟨b, 0 + i, none⟩ = some (.int .i64 (zs.getD i 0))
theorem LN.lst {w : World} {g : Nat} {pa : Option Addr} {zs : List Int} (h : LN w g pa zs) : Lst w pa zs := by
  rcases h with h | ⟨b, h1, _, h2, h3⟩
  · exact Or.inl h
  · exact Or.inr ⟨b, 0, h1, h2, h3⟩
theorem LN.below {w w' : World} {g : Nat} {pa : Option Addr} {zs : List Int} (h : LN w g pa zs) (hb : Below w.heap.size w w') : LN w' g pa zs := by
  rcases h with h | ⟨b, h1, h2, h3, h4⟩
  · exact Or.inl h
  · exact Or.inr ⟨b, h1, h2, Nat.lt_of_lt_of_le h3 hb.size, fun i hi => by rw [hb.cell (p := ⟨b, 0 + i, none⟩) h3]; exact h4 i hi⟩
theorem LN.set {w : World} {g j : Nat} {pa : Option Addr} {zs : List Int} {v : Value} (h : LN w g pa zs) : LN (w.setCell ⟨g, j, none⟩ v) g pa zs := by
  rcases h with h | ⟨b, h1, h2, h3, h4⟩
  · exact Or.inl h
  · refine Or.inr ⟨b, h1, h2, by simpa [World.setCell] using h3, fun i hi => ?_⟩
    rw [World.cell?_setCell_other _ _ _ _ (by first | (simp; omega) | simp | omega)]
    exact h4 i hi
theorem irow_ln {w : World} {B g : Nat} {v : Value} {zs : List Int} (h : IRow w B v zs) (hg : g < B) : ∃ pa c, v = .slice pa zs.length c ∧ LN w g pa zs := by
  have h' := h
  obtain ⟨_, ⟨h0, h1⟩ | ⟨b, cap, cur, hv, hb, hh, hc, hm, _⟩⟩ := h'
  · exact ⟨none, 0, by rw [h0, h1], Or.inl (List.eq_nil_of_length_eq_zero h1)⟩
  · refine ⟨some ⟨b, 0, none⟩, cap, hv, ?_⟩
    rw [hv] at h
    refine Or.inr ⟨b, rfl, by omega, (World.ownsRow.lt h b rfl).2, fun i hi => ?_⟩
    rw [Nat.zero_add, World.ownsRow.cellAt h i (by omega), List.getElem?_map, List.getElem?_eq_getElem hi, List.getD_eq_getElem?_getD, List.getElem?_eq_getElem hi]
    rfl
def CRel (gs : List ByteArray) (g n k : Nat) (w : World) : Prop := ∃ cur, Blk w g cur 23 ∧ cur.size = n ∧ ∀ i, i < k → (gpV gs.length (gs.getD i ⟨#[]⟩)).isSome = true ∧ ∃ pa c, cur[i]? = some (.slice pa (qf gs i).length c) ∧ LN w g pa (G10.ints (qf gs i))
theorem CRel.below {gs : List ByteArray} {g n k : Nat} {w w' : World} (h : CRel gs g n k w) (hb : Below w.heap.size w w') : CRel gs g n k w' := by
  obtain ⟨cur, h1, h2, h3⟩ := h
  refine ⟨cur, h1.below hb, h2, fun i hi => ?_⟩
  obtain ⟨h4, pa, c, h5, h6⟩ := h3 i hi
  exact ⟨h4, pa, c, h5, h6.below hb⟩
theorem CRel.put {gs : List ByteArray} {g n k : Nat} {w : World} (h : CRel gs g n k w) (hk : k < n) (hs : (gpV gs.length (gs.getD k ⟨#[]⟩)).isSome = true) {pa : Option Addr} {c : Nat} (hl : LN w g pa (G10.ints (qf gs k))) : CRel gs g n (k + 1) (w.setCell ⟨g, k, none⟩ (.slice pa (qf gs k).length c)) := by
  obtain ⟨cur, h1, h2, h3⟩ := h
  refine ⟨_, h1.set k _, by simpa using h2, fun i hi => ?_⟩
  rcases Nat.lt_or_ge i k with hik | hik
  · obtain ⟨h4, pa', c', h5, h6⟩ := h3 i hik
    exact ⟨h4, pa', c', by rw [Array.getElem?_setIfInBounds_ne (by omega)]; exact h5, h6.set⟩
  · obtain rfl : i = k := by omega
    exact ⟨hs, pa, c, by rw [Array.getElem?_setIfInBounds_self_of_lt (by omega)], hl.set⟩
def CpR (w : World) (gs : List ByteArray) (n : Nat) (e : Ending) (w' : World) : Prop := Below w.heap.size w w' ∧ ((cpV gs = none ∧ e = .returned (.tuple #[.slice none 0 0, .bool false])) ∨ ∃ pss, cpV gs = some pss ∧ ∃ g, e = .returned (.tuple #[.slice (some ⟨g, 0, none⟩) n n, .bool true]) ∧ PLst w' (some ⟨g, 0, none⟩) pss)
set_option maxRecDepth 8000 in
set_option maxHeartbeats 4000000 in
theorem comp_any (a : Option Addr) (n c : Nat) (gs : List ByteArray) (w : World) (hn : gs.length = n) (h2 : n ≤ 4096) (hz : ∀ g ∈ gs, g.size ≤ 1000000) (hL : G10.SLst w a gs) :
    Calls Tryz.prog 31 #[.slice a n c] w (CpR w gs n) := by
  have h2' : (n : Int) ≤ 4096 := by omega
  have MK := make_iss n (by omega)
  have HN := hide hn
  have HZ := hide hz
  have HL := hide hL
  have k0 := Blk.new w (Array.replicate n (.slice none 0 0)) 23
  have b0 := (Below.refl w.heap.size w).alloc (Nat.le_refl _) (.cells (Array.replicate n (.slice none 0 0)) 23)
  have HS0 := hide (show CRel gs w.heap.size n 0 (w.alloc (.cells (Array.replicate n (.slice none 0 0)) 23)) ∧ Below w.heap.size w (w.alloc (.cells (Array.replicate n (.slice none 0 0)) 23)) from ⟨⟨_, k0, by simp, fun i hi => by omega⟩, b0⟩)
  clear hn hz hL k0 b0 h2
  go_enter Tryz.func31, Tryz.ntmps31
  go_wp2_with fail
  go_loopw [14] (fun vi wr => ∃ k : Nat, vi = .int .i64 (k : Int) ∧ Hid (k ≤ n ∧ CRel gs w.heap.size n k wr ∧ Below w.heap.size w wr)) (fun vi _ => n - (intOf vi).toNat)
  case atStart => exact ⟨0, rfl, hide ⟨by omega, HS0.out.1, HS0.out.2⟩⟩
  case round =>
    clear HS0 MK
    obtain ⟨k, rfl, HV⟩ := hrel
    obtain ⟨hk, hC, hbw⟩ := HV.out
    have hk0 : (0 : Int) ≤ (k : Int) := by omega
    clear HV
    by_cases hlt : k < n
    case neg =>
      obtain rfl : n = k := by omega
      have hlt' : ¬ (n : Int) < (n : Int) := by omega
      have HE := hide (show CpR w gs n (.returned (.tuple #[.slice (some ⟨w.heap.size, 0, none⟩) n n, .bool true])) wr from by
        obtain ⟨cur, h1, h2, h3⟩ := hC
        refine ⟨hbw, Or.inr ⟨_, okC_yes (fun i hi => (h3 i (by rw [← HN.out]; exact hi)).1), _, rfl, ?_⟩⟩
        refine Or.inr ⟨w.heap.size, 0, rfl, h1.lt, fun i ps hi => ?_⟩
        rw [List.getElem?_map] at hi
        obtain ⟨j, hj, rfl⟩ := Option.map_eq_some_iff.1 hi
        have hjl := (List.getElem?_eq_some_iff.1 hj)
        obtain ⟨hjl, hje⟩ := hjl
        rw [List.getElem_range] at hje
        subst hje
        have hin : i < n := by rw [← HN.out]; simpa using hjl
        obtain ⟨_, pa, c, h5, h6⟩ := h3 i hin
        exact ⟨pa, c, by rw [Nat.zero_add, h1.cell i]; exact h5, h6.lst⟩)
      clear hC hbw hk hlt
      go_wp2_with fail
      go_ret2
      exact HE.out
    have hlt' : (k : Int) < (n : Int) := by omega
    obtain ⟨b, o, rfl, hbl, hcell⟩ : ∃ b o, a = some ⟨b, o, none⟩ ∧ b < w.heap.size ∧ ∀ i, i < gs.length → w.cell? ⟨b, o + i, none⟩ = some (.string (gs.getD i ⟨#[]⟩)) := by
      rcases HL.out with hz | h
      · have := HN.out
        rw [hz] at this; simp at this; omega
      · exact h
    obtain ⟨s, hs⟩ : ∃ s, gs.getD k ⟨#[]⟩ = s := ⟨_, rfl⟩
    have c0 := hcell k (by rw [HN.out]; exact hlt)
    rw [← hbw.cell (p := ⟨b, o + k, none⟩) hbl, hs] at c0
    have hss : s.size ≤ 1000000 := by
      rw [← hs, List.getD_eq_getElem?_getD, List.getElem?_eq_getElem (by rw [HN.out]; exact hlt)]
      exact HZ.out _ (List.getElem_mem _)
    have CP := hide (G10.parts_any s wr hss)
    have hblw : b < wr.heap.size := Nat.lt_of_lt_of_le hbl hbw.size
    have HC := hide hC
    have HBW := hide hbw
    have HS := hide hs
    have hkl : k < gs.length := by rw [HN.out]; exact hlt
    have HKL := hide hkl
    have HNB := hide (show CRel gs w.heap.size n k wr → w.heap.size < wr.heap.size from fun h => by obtain ⟨cur, h1, _⟩ := h; exact h1.lt)
    clear hcell hC hbw hk hs hss hkl
    cases hR : G10.shV s.data.toList with
    | none =>
      have HE := hide (show cpV gs = none from okC_no HKL.out (by rw [HS.out]; unfold gpV; rw [hR]))
      rw [hR] at CP
      unfold G10.PrR at CP
      dsimp only at CP
      clear hR
      go_wp2_with fail
      refine CP.out.mono ?_
      rintro e w1 ⟨rfl, h1⟩
      have HB1 := hide (below_t5 HBW.out h1)
      clear h1 c0
      go_wp2_with fail
      go_ret2
      exact ⟨HB1.out, Or.inl ⟨HE.out, rfl⟩⟩
    | some r =>
      obtain ⟨p, ps⟩ := r
      obtain ⟨qs, hqs⟩ : ∃ q, G10.prV s.data.toList ps = q := ⟨_, rfl⟩
      have hql : qs.length ≤ 64 := by rw [← hqs]; unfold G10.prV; rw [List.length_map]; exact (G10.shV_bd hR).2.2
      rw [hR] at CP
      unfold G10.PrR at CP
      dsimp only at CP
      rw [hqs] at CP
      have hgp : gpV gs.length (gs.getD k ⟨#[]⟩) = if qs.all (fun q => decide (q < gs.length)) then some qs else none := by rw [HS.out]; unfold gpV; rw [hR]; simp only [hqs]
      have hil : (G10.ints qs).length = qs.length := by unfold G10.ints; rw [List.length_map]
      cases hall : qs.all (fun q => decide (q < gs.length)) with
      | false =>
        rw [hall] at hgp
        have HE := hide (show cpV gs = none from okC_no HKL.out hgp)
        have hq0 : 0 < qs.length := by
          cases qs with
          | nil => simp at hall
          | cons _ _ => simp
        have hmx := max_ints qs gs.length hq0
        rw [hall, HN.out] at hmx
        have HMX := hide hmx
        clear hR hgp hall hqs hmx
        go_wp2_with fail
        refine CP.out.mono ?_
        rintro e w1 ⟨v, rfl, hI, h1⟩
        obtain ⟨pa, pc, hv, hln⟩ := irow_ln hI (HNB.out HC.out)
        rw [hil] at hv
        subst hv
        have CM := hide (max_any pa (G10.ints qs) qs.length pc w1 hil (by omega) (by omega) hln.lst)
        have HB1 := hide (below_t5 HBW.out h1)
        have hm1 := HMX.out
        generalize maxV (G10.ints qs) = MX at CM hm1
        have hm2 : (n : Int) ≤ MX := by simpa using hm1
        obtain ⟨ql, hqe⟩ : ∃ q, qs.length = q := ⟨_, rfl⟩
        rw [hqe] at CM ⊢
        have hq1 : (0 : Int) < (ql : Int) := by omega
        clear h1 c0 hI hln hm1 hil hq0 hql
        go_wp2_with (go_at_call 65; refine CM.out.mono ?_; rintro e w2 ⟨rfl, hw2⟩; replace hw2 := hw2.symm; subst hw2)
        go_ret2
        exact ⟨HB1.out, Or.inl ⟨HE.out, rfl⟩⟩
      | true =>
        rw [hall, if_pos rfl] at hgp
        have hqf : qf gs k = qs := by unfold qf; rw [hgp]; rfl
        have hisS : (gpV gs.length (gs.getD k ⟨#[]⟩)).isSome = true := by rw [hgp]; rfl
        have HQ := hide (And.intro hqf hisS)
        have hmx : 0 < qs.length → decide ((n : Int) ≤ maxV (G10.ints qs)) = false := fun h => by
          have := max_ints qs gs.length h
          rw [hall, HN.out] at this
          exact this
        have HMX := hide hmx
        have HQL := hide hql
        clear hR hgp hall hqs hmx hqf hisS
        go_wp2_with fail
        refine CP.out.mono ?_
        rintro e w1 ⟨v, rfl, hI, h1⟩
        obtain ⟨pa, pc, hv, hln⟩ := irow_ln hI (HNB.out HC.out)
        rw [hil] at hv
        subst hv
        have hC1 := HC.out.below h1
        have hput := hC1.put (c := pc) hlt HQ.out.2 (show LN w1 w.heap.size pa (G10.ints (qf gs k)) by rw [HQ.out.1]; exact hln)
        rw [HQ.out.1] at hput
        have HP := hide hput
        have hbs : Below w.heap.size w (w1.setCell ⟨w.heap.size, k, none⟩ (.slice pa qs.length pc)) := (below_t5 HBW.out h1).setCell (p := ⟨w.heap.size, k, none⟩) (Nat.le_refl _) _
        have HBS := hide hbs
        obtain ⟨cur, hcb, hcs, _⟩ := hC1
        have g0 := hcb.cell k
        rw [Array.getElem?_eq_getElem (by omega)] at g0
        have gf := hcb.frozen k
        have glt := hcb.lt
        have CM := hide (fun h0 : 1 ≤ qs.length => max_any pa (G10.ints qs) qs.length pc w1 hil h0 (by have := HQL.out; omega) hln.lst)
        generalize cur[k] = z0 at g0
        obtain ⟨ql, hqe⟩ : ∃ q, qs.length = q := ⟨_, rfl⟩
        rw [hqe] at CM HP HBS HMX hql ⊢
        generalize maxV (G10.ints qs) = MX at CM HMX
        clear h1 c0 hI hln hil hput hbs hcb hcs hqe HC HBW
        by_cases hq0 : 0 < ql
        · have hq1 : (0 : Int) < (ql : Int) := by omega
          have hm2 : ¬ (n : Int) ≤ MX := by simpa using HMX.out hq0
          have CM1 := hide (CM.out (by omega))
          go_wp2_with (go_at_call 65; refine CM1.out.mono ?_; rintro e w2 ⟨rfl, hw2⟩; replace hw2 := hw2.symm; subst hw2)
          go_roundw
          case rel => exact ⟨k + 1, by go_num, hide ⟨by omega, HP.out, HBS.out⟩⟩
          case measure => simp [intOf]; omega
        · have hq1 : ¬ (0 : Int) < (ql : Int) := by omega
          have hq2 : decide (0 < ql) = false := by rw [decide_eq_false_iff_not]; exact hq0
          go_wp2_with fail
          go_roundw
          case rel => exact ⟨k + 1, by go_num, hide ⟨by omega, HP.out, HBS.out⟩⟩
          case measure => simp [intOf]; omega
end Go.Proofs.YtpdfpbbamnhkfaaGreatDoor.F12
