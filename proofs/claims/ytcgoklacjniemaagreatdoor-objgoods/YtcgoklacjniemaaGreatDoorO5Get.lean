/-
  What the landed Get answers.
-/
import Derived.Test.YtcgoklacjniemaaGreatDoorO5RGet
import Derived.Test.YtcgoklacjniemaaGreatDoorO5Cpd
import Derived.Test.YtcgoklacjniemaaGreatDoorShelf
namespace Go.Proofs.YtcgoklacjniemaaGreatDoor
open Go.RowKit Go.Deep

def kidx (x : ByteArray) (l : List ByteArray) : Int := match kfind x l with | some i => i | none => -1
theorem idxFrom_kfind (x : ByteArray) : ∀ (l : List ByteArray) (i : Nat), Lib.idxFromS l x i = match kfind x l with | some k => ((i + k : Nat) : Int) | none => -1
  | [], _ => rfl
  | z :: l, i => by
    rw [Lib.idxFromS, kfind]
    by_cases h : z = x
    · rw [if_pos h, if_pos ((Lib.bytes_beq_iff z x).2 h)]
      rfl
    · rw [if_neg h, if_neg (fun h' => h ((Lib.bytes_beq_iff z x).1 h')), idxFrom_kfind x l (i + 1)]
      cases kfind x l with
      | none => rfl
      | some k => exact congrArg (fun n : Nat => (n : Int)) (show i + 1 + k = i + (k + 1) by omega)
theorem idx_kidx (x : ByteArray) (l : List ByteArray) : Lib.idxOfS l x = kidx x l := by
  unfold Lib.idxOfS kidx
  rw [idxFrom_kfind]
  cases kfind x l <;> simp
theorem index_any (ka : Option Addr) (ss : List ByteArray) (kc : Nat) (x : ByteArray) (w : World) (hS : Strs w ka ss) (hn : ss.length ≤ 9223372036854775807) :
    Calls Tryz.prog 27 #[.slice ka ss.length kc, .string x] w fun e w' => e = .returned (.int .i64 (kidx x ss)) ∧ w' = w := by
  rcases hS with rfl | ⟨b, off, rfl, hb, hc⟩
  · have := Any.slices_Index_string_empty lays109 ka kc x w
    rw [idx_kidx] at this
    exact this
  · have := Any.slices_Index_string lays109 b off ss.length kc ss x w (Nat.le_refl _) hn hc
    rw [List.take_length, idx_kidx] at this
    exact this
theorem kfind_lt {x : ByteArray} : ∀ {l : List ByteArray} {i : Nat}, kfind x l = some i → i < l.length
  | [], _, h => by simp [kfind] at h
  | y :: l, i, h => by
    rw [kfind] at h
    split at h
    · simp at h; simp [← h]
    · cases hk : kfind x l with
      | none => rw [hk] at h; simp at h
      | some k => rw [hk] at h; simp at h; have := kfind_lt hk; simp; omega

set_option maxRecDepth 8000 in
set_option maxHeartbeats 4000000 in
theorem get_any (p : Pay) (T : BT Pay) (ka : Option Addr) (kc : Nat) (ia : Option Addr) (ic : Nat) (x : ByteArray) (w : World) (hin : OIn w p T ka kc ia ic) :
    Calls Tryz.prog 16 #[ov p ka kc ia (flen T) ic, .string x] w fun e w' => Got w' (getV p T x) e ∧ Below w.heap.size w w' := by
  have HI := hide hin
  have hl1 : (flen T : Int) ≤ 9223372036854775807 := by have h := hin.2.2.1; have h' := hin.2.2.2.1; omega
  have hl0 : (0 : Int) ≤ (flen T : Int) := by omega
  have hn : p.keys.length ≤ 9223372036854775807 := by have h := hin.2.1.2.1; have h' := hin.2.1.2.2; omega
  have HB0 := hide (((Below.refl w.heap.size w).alloc (Nat.le_refl _) (.cells (obox p ka kc ia (flen T) ic) 25)).alloc (by simp) (.cells zobj 25))
  have CX := hide (index_any ka p.keys kc x _ (hin.2.1.1.below HB0.out) hn)
  obtain ⟨R, hR⟩ : ∃ R, getV p T x = R := ⟨_, rfl⟩
  rw [hR]
  unfold getV at hR
  have HK1 : Hid (Blk ((w.alloc (.cells (obox p ka kc ia (flen T) ic) 25)).alloc (.cells zobj 25)) (w.heap.size + 1) zobj 25) := hide (by
    have := Blk.new (w.alloc (.cells (obox p ka kc ia (flen T) ic) 25)) zobj 25
    rwa [show (w.alloc (.cells (obox p ka kc ia (flen T) ic) 25)).heap.size = w.heap.size + 1 by simp] at this)
  clear hin hn
  by_cases h7 : p.kind = 7
  case neg =>
    rw [if_neg h7] at hR
    subst hR
    have h7' : (p.kind != 7) = true := by simpa using h7
    clear h7
    go_enter Tryz.func16, Tryz.ntmps16
    go_wp2_with (go_at_call 27; refine CX.out.mono ?_; rintro e wx ⟨rfl, rfl⟩)
    exact bodyPost_ret (v := .tuple #[ov zpay none 0 none 0 0, .bool false]) (by simp [results, Tryz.results16, go_sem, zpay]) rfl ⟨rfl, HB0.out⟩
  rw [if_pos h7] at hR
  have h7' : (p.kind != 7) = false := by simp [h7]
  clear h7
  unfold kidx at CX
  cases hf : kfind x p.keys with
  | none =>
    rw [hf] at hR CX
    subst hR
    simp only at CX
    clear hf
    go_enter Tryz.func16, Tryz.ntmps16
    go_wp2_with (go_at_call 27; refine CX.out.mono ?_; rintro e wx ⟨rfl, rfl⟩)
    exact bodyPost_ret (v := .tuple #[ov zpay none 0 none 0 0, .bool false]) (by simp [results, Tryz.results16, go_sem, zpay]) rfl ⟨rfl, HB0.out⟩
  | some i =>
    have hR : nthF T i = R := by rw [hf] at hR; simpa using hR
    rw [hf] at CX
    simp only at CX
    have hi0 : (0 : Int) ≤ (i : Int) := by omega
    clear hf
    obtain ⟨bb, of, hia, hrows⟩ := OIn.at_ HI.out
    by_cases hlt : i < flen T
    · obtain ⟨q, U, ka2, kc2, ia2, ic2, hn, g6, gin⟩ := nthF_rows hlt hrows
      rw [hn] at hR
      subst hR
      obtain rfl | ⟨rfl, hbz⟩ := hia
      · simp [flen] at hlt
      obtain ⟨c0, c1, c2, c3, c4, c5⟩ := g6.below hbz HB0.out
      have CC := hide (copied_core _ q U ka2 kc2 ia2 ic2 _ (Nat.lt_succ_self _) (gin.below HB0.out))
      clear hrows g6 gin hn
      go_enter Tryz.func16, Tryz.ntmps16
      go_wp2_with (first | (go_at_call 27; refine CX.out.mono ?_; rintro e wx ⟨rfl, rfl⟩) | (go_at_call 28; refine CC.out.mono ?_; rintro e wy ⟨⟨ka3, kc3, ia3, ic3, rfl, hin3⟩, hy⟩; have HN := hide hin3; have HY := hide hy; have hk1 := HK1.out.below hy; have HKY := hide hk1; obtain ⟨⟨r0, r1, r2, r3, r4, r5⟩, ⟨y0, y1, y2, y3, y4, y5⟩⟩ := hk1.six; clear hin3 hy hk1))
      have hbf := st6_below (below_t5 HB0.out HY.out) (b := w.heap.size + 1) (by omega) (.int .i64 q.kind) (.bool q.flag) (.int .i64 q.num) (.string q.text) (.slice ka3 q.keys.length kc3) (.slice ia3 (flen U) ic3)
      obtain ⟨⟨f0, f1, f2, f3, f4, f5⟩, _⟩ := (st6_blk HKY.out (.int .i64 q.kind) (.bool q.flag) (.int .i64 q.num) (.string q.text) (.slice ka3 q.keys.length kc3) (.slice ia3 (flen U) ic3)).six
      refine bodyPost_ret (v := .tuple #[ov q ka3 kc3 ia3 (flen U) ic3, .bool true]) (by simp only [results, Tryz.results16, go_sem]; simp [go_sem, f0, f1, f2, f3, f4, f5]) rfl ⟨⟨ka3, kc3, ia3, ic3, rfl, ?_⟩, hbf⟩
      refine (HN.out.sub (only_sub (S' := fun k => w.heap.size + 1 < k) (w' := st6 wy (w.heap.size + 1) (.int .i64 q.kind) (.bool q.flag) (.int .i64 q.num) (.string q.text) (.slice ka3 q.keys.length kc3) (.slice ia3 (flen U) ic3)) (by rw [st6_size]; exact Nat.le_refl _) fun k h1 _ => ⟨by simp at h1; omega, st6_block (by simp at h1; omega) _ _ _ _ _ _⟩)).sub (only_sub_all _ _)
    · rw [nthF_none T i (by omega)] at hR
      subst hR
      clear hrows hia
      go_enter Tryz.func16, Tryz.ntmps16
      go_wp2_with (go_at_call 27; refine CX.out.mono ?_; rintro e wx ⟨rfl, rfl⟩)
      exact bodyPost_ret (v := .tuple #[ov zpay none 0 none 0 0, .bool false]) (by simp [results, Tryz.results16, go_sem, zpay]) rfl ⟨rfl, HB0.out⟩
end Go.Proofs.YtcgoklacjniemaaGreatDoor
