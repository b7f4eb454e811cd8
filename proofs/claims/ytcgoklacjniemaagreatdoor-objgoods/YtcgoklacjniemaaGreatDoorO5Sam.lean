/-
  What the landed Same answers, of any two objects.
-/
import Derived.Test.YtcgoklacjniemaaGreatDoorO5Same
import Derived.Test.YtcgoklacjniemaaGreatDoorO5Sm
namespace Go.Proofs.YtcgoklacjniemaaGreatDoor
open Go.RowKit Go.Deep

theorem eqS_iff (a b : ByteArray) : eqS a b = decide (a = b) := by
  unfold eqS
  rw [Bool.eq_iff_iff, Lib.bytes_beq_iff, decide_eq_true_iff]
theorem keysEq_eq : ∀ (a b : List ByteArray), keysEq a b = decide (a = b)
  | [], [] => rfl
  | [], _ :: _ => by simp [keysEq]
  | _ :: _, [] => by simp [keysEq]
  | a :: l, b :: m => by rw [keysEq, keysEq_eq l m, eqS_iff, Bool.eq_iff_iff]; simp
theorem equal_any (ka kb : Option Addr) (xs ys : List ByteArray) (kc kd : Nat) (w : World) (hx : Strs w ka xs) (hy : Strs w kb ys) (h1 : xs.length ≤ 9223372036854775807) (h2 : ys.length ≤ 9223372036854775807) :
    Calls Tryz.prog 25 #[.slice ka xs.length kc, .slice kb ys.length kd] w fun e w' => e = .returned (.bool (keysEq xs ys)) ∧ Below w.heap.size w w' := by
  by_cases hn : xs.length = ys.length
  · rcases hx with rfl | ⟨b, off, rfl, hb, hc⟩
    · refine (Any.slices_Equal_string_empty lays193 ka kb kc ys.length kd w h2).mono ?_
      rintro e w' ⟨rfl, rfl⟩
      refine ⟨?_, Below.refl _ _⟩
      have hys : ys = [] := List.eq_nil_of_length_eq_zero (by simpa using hn.symm)
      subst hys
      rfl
    · rcases hy with rfl | ⟨b', off', rfl, hb', hc'⟩
      · have hxs : xs = [] := List.eq_nil_of_length_eq_zero (by simpa using hn)
        subst hxs
        refine (Any.slices_Equal_string_empty lays193 _ kb kc 0 kd w (by omega)).mono ?_
        rintro e w' ⟨rfl, rfl⟩
        exact ⟨rfl, Below.refl _ _⟩
      · refine (Any.slices_Equal_string lays193 b off xs.length kc b' off' ys.length kd xs ys w (Nat.le_refl _) (Nat.le_refl _) h1 h2 hc hc').mono ?_
        rintro e w' ⟨rfl, q, rfl⟩
        rw [List.take_length, List.take_length, keysEq_eq]
        exact ⟨rfl, below_drewN' _ _⟩
  · refine (Any.slices_Equal_string_lens lays193 ka kb xs.length kc ys.length kd w hn).mono ?_
    rintro e w' ⟨rfl, rfl⟩
    have : keysEq xs ys = false := by
      rw [Bool.eq_false_iff]
      exact fun h => hn (keysEq_len h)
    rw [this]
    exact ⟨rfl, Below.refl _ _⟩
set_option maxRecDepth 8000 in
set_option maxHeartbeats 4000000 in
theorem eqf_step (M : Nat)
    (ih : ∀ (p q : Pay) (T U : BT Pay) (ka kb : Option Addr) (kc kd : Nat) (ia ib : Option Addr) (ic id : Nat) (w : World), fsize T < M → OIn w p T ka kc ia ic → OIn w q U kb kd ib id →
      Calls Tryz.prog 14 #[ov p ka kc ia (flen T) ic, ov q kb kd ib (flen U) id] w fun e w' => e = .returned (.bool (sameV p T q U)) ∧ Below w.heap.size w w')
    (p q : Pay) (T U : BT Pay) (ka kb : Option Addr) (kc kd : Nat) (ia ib : Option Addr) (ic id : Nat) (w : World) (hM : fsize T ≤ M) (hp : OIn w p T ka kc ia ic) (hq : OIn w q U kb kd ib id) :
    Calls Tryz.prog 26 #[.slice ia (flen T) ic, .slice ib (flen U) id, .func (.func 14) #[] #[]] w fun e w' => e = .returned (.bool (sameF T U)) ∧ Below w.heap.size w w' := by
  have hl1 : (flen T : Int) ≤ 9223372036854775807 := by have h := hp.2.2.1; have h' := hp.2.2.2.1; omega
  have hl2 : (flen U : Int) ≤ 9223372036854775807 := by have h := hq.2.2.1; have h' := hq.2.2.2.1; omega
  obtain ⟨R, hR⟩ : ∃ R, sameF T U = R := ⟨_, rfl⟩
  rw [hR]
  have HR := hide hR
  by_cases hne : flen T = flen U
  case neg =>
    have f6 : ((flen T : Int) != (flen U : Int)) = true := by rw [bne_iff_ne]; omega
    obtain rfl : R = false := by rw [← hR, Bool.eq_false_iff]; exact fun h => hne (sameF_len h)
    clear hne hp hq ih hR HR
    go_enter Tryz.func26, Tryz.ntmps26
    go_wp2_with fail
    go_ret
    exact ⟨rfl, Below.refl _ _⟩
  have f6 : ((flen T : Int) != (flen U : Int)) = false := by rw [hne]; simp
  have E6 := hide hne
  obtain ⟨b, off, hia, hrows⟩ := OIn.at_ hp
  obtain ⟨b', off', hib, hrows'⟩ := OIn.at_ hq
  have HRA := hide hrows
  have HRB := hide hrows'
  have HIA := hide hia
  have HIB := hide hib
  have IH := hide ih
  have HM := hide hM
  clear hrows hrows' hia hib hp hq ih hM hne hR
  go_enter Tryz.func26, Tryz.ntmps26
  go_wp2_with fail
  go_loopw [17] (fun vk wt => ∃ (k : Nat) (A B : BT Pay), vk = .int .i64 k ∧ Hid (flen A + k = flen T ∧ flen B + k = flen U ∧ fsize A ≤ fsize T ∧ Rows w A b (off + k * 6) ∧ Rows w B b' (off' + k * 6) ∧ sameF A B = R ∧ Below w.heap.size w wt)) (fun vk _ => flen T - (intOf vk).toNat)
  case atStart => exact ⟨0, T, U, rfl, hide ⟨by omega, by omega, Nat.le_refl _, by simpa using HRA.out, by simpa using HRB.out, HR.out, Below.refl _ _⟩⟩
  case round =>
    clear HRA HRB HR
    obtain ⟨k, A, B, rfl, HV⟩ := hrel
    obtain ⟨hk1, hk2, hu, hra, hrb, hs, hbel⟩ := HV.out
    clear HV
    have HBL := hide hbel
    have e6 := E6.out
    cases A with
    | nil =>
      have hB : B = .nil := flen_zero (by simp [flen] at hk1; omega)
      subst hB
      obtain rfl : true = R := hs
      have hk' : ¬ k < flen T := by simp [flen] at hk1; omega
      clear hk1 hk2 hra hrb hbel hu e6
      go_wp2_with fail
      go_ret
      exact ⟨rfl, HBL.out⟩
    | node b0 o0 p1 T1 N1 =>
      cases B with
      | nil => simp [flen] at hk1 hk2; omega
      | node b1 o1 q1 U1 N2 =>
        obtain ⟨⟨ka', kc', ia', ic', g6, gin⟩, grest⟩ := rows_node.1 hra
        obtain ⟨⟨kb', kd', ib', id', g7, gin'⟩, grest'⟩ := rows_node.1 hrb
        obtain rfl | ⟨rfl, hbz⟩ := HIA.out
        · simp [flen] at hk1
        obtain rfl | ⟨rfl, hbz'⟩ := HIB.out
        · simp [flen] at hk2
        have hlt : k < flen T := by simp [flen] at hk1; omega
        have hlt2 : k < flen U := by simp [flen] at hk2; omega
        have hk0 : (0 : Int) ≤ (k : Int) := by omega
        have hst : fsize T1 < M := by have := HM.out; simp [fsize] at hu; omega
        have CI := fun (wt' : World) (h : Below w.heap.size w wt') => IH.out p1 q1 T1 U1 ka' kb' kc' kd' ia' ib' ic' id' wt' hst (gin.below h) (gin'.below h)
        obtain ⟨c0, c1, c2, c3, c4, c5⟩ := g6.below hbz hbel
        obtain ⟨d0, d1, d2, d3, d4, d5⟩ := g7.below hbz' hbel
        have hs' : (sameV p1 T1 q1 U1 && sameF N1 N2) = R := hs
        generalize sameV p1 T1 q1 U1 = r at CI hs'
        have CI := hide CI
        have HS := hide hs'
        have HK := hide (show flen N1 + (k + 1) = flen T ∧ flen N2 + (k + 1) = flen U ∧ fsize N1 ≤ fsize T by simp [flen, fsize] at hk1 hk2 hu; omega)
        have HRA := hide grest
        have HRB := hide grest'
        have hb1 : b < wr.heap.size := Nat.lt_of_lt_of_le hbz hbel.size
        have hb2 : b' < wr.heap.size := Nat.lt_of_lt_of_le hbz' hbel.size
        clear hk1 hk2 hu hra hrb hs hs' hbel g6 g7 gin gin' grest grest' e6
        cases r
        · obtain rfl : false = R := HS.out
          go_wp2_with (go_at_call 14; refine (CI.out _ ?_).mono ?_; exact (HBL.out.alloc HBL.out.size _).alloc (by have := HBL.out.size; simp; omega) _; rintro e wy ⟨rfl, hy⟩)
          go_ret
          exact ⟨rfl, below_t5 ((HBL.out.alloc HBL.out.size _).alloc (by have := HBL.out.size; simp; omega) _) hy⟩
        · go_wp2_with (go_at_call 14; refine (CI.out _ ?_).mono ?_; exact (HBL.out.alloc HBL.out.size _).alloc (by have := HBL.out.size; simp; omega) _; rintro e wy ⟨rfl, hy⟩)
          go_roundw
          case rel => exact ⟨k + 1, N1, N2, by go_num, hide ⟨HK.out.1, HK.out.2.1, HK.out.2.2, by have := HRA.out; rw [show off + (k + 1) * 6 = off + k * 6 + 6 by omega]; exact this, by have := HRB.out; rw [show off' + (k + 1) * 6 = off' + k * 6 + 6 by omega]; exact this, by have := HS.out; rwa [Bool.true_and] at this, below_t5 ((HBL.out.alloc HBL.out.size _).alloc (by have := HBL.out.size; simp; omega) _) hy⟩⟩
          case measure => have := HK.out; simp [intOf]; omega
set_option maxRecDepth 8000 in
set_option maxHeartbeats 4000000 in
theorem osame_step (M : Nat)
    (ih : ∀ (p q : Pay) (T U : BT Pay) (ka kb : Option Addr) (kc kd : Nat) (ia ib : Option Addr) (ic id : Nat) (w : World), fsize T < M → OIn w p T ka kc ia ic → OIn w q U kb kd ib id →
      Calls Tryz.prog 14 #[ov p ka kc ia (flen T) ic, ov q kb kd ib (flen U) id] w fun e w' => e = .returned (.bool (sameV p T q U)) ∧ Below w.heap.size w w')
    (p q : Pay) (T U : BT Pay) (ka kb : Option Addr) (kc kd : Nat) (ia ib : Option Addr) (ic id : Nat) (w : World) (hM : fsize T ≤ M) (hp : OIn w p T ka kc ia ic) (hq : OIn w q U kb kd ib id) :
    Calls Tryz.prog 14 #[ov p ka kc ia (flen T) ic, ov q kb kd ib (flen U) id] w fun e w' => e = .returned (.bool (sameV p T q U)) ∧ Below w.heap.size w w' := by
  have CF := hide (fun w' h => eqf_step M ih p q T U ka kb kc kd ia ib ic id w' hM (OIn.below (w := w) (w' := w') h hp) (OIn.below (w := w) (w' := w') h hq))
  have CE := hide (fun w' h => equal_any ka kb p.keys q.keys kc kd w' (Strs.below (w := w) (w' := w') hp.2.1.1 h) (Strs.below (w := w) (w' := w') hq.2.1.1 h) (by have h := hp.2.1.2.1; have h' := hp.2.1.2.2; omega) (by have h := hq.2.1.2.1; have h' := hq.2.1.2.2; omega))
  have HB : Hid (∀ c d, Below w.heap.size w ((w.alloc c).alloc d)) := hide (fun c d => ((Below.refl _ _).alloc (Nat.le_refl _) c).alloc (by simp) d)
  have HZ : Hid (∀ c d, w.heap.size < ((w.alloc c).alloc d).heap.size ∧ w.heap.size + 1 < ((w.alloc c).alloc d).heap.size) := hide (fun c d => by constructor <;> simp <;> omega)
  have HA := hide ((six_box w p ka kc ia (flen T) ic 25).below (by simp) ((Below.refl _ _).alloc (Nat.le_refl _) (.cells #[.int .i64 q.kind, .bool q.flag, .int .i64 q.num, .string q.text, .slice kb q.keys.length kd, .slice ib (flen U) id] 25)))
  have HC := six_box (w.alloc (.cells #[.int .i64 p.kind, .bool p.flag, .int .i64 p.num, .string p.text, .slice ka p.keys.length kc, .slice ia (flen T) ic] 25)) q kb kd ib (flen U) id 25
  rw [show (w.alloc (.cells #[.int .i64 p.kind, .bool p.flag, .int .i64 p.num, .string p.text, .slice ka p.keys.length kc, .slice ia (flen T) ic] 25)).heap.size = w.heap.size + 1 by simp] at HC
  have HC := hide HC
  unfold sameV payEq eqS
  generalize sameF T U = F at CF
  generalize keysEq p.keys q.keys = E at CE
  clear hp hq ih hM
  cases h1 : (p.kind == q.kind)
  · go_enter Tryz.func14, Tryz.ntmps14
    go_wp2_with fail
    go_ret
    exact ⟨by simp, HB.out _ _⟩
  cases h2 : (p.flag == q.flag)
  · go_enter Tryz.func14, Tryz.ntmps14
    go_wp2_with fail
    go_ret
    exact ⟨by simp, HB.out _ _⟩
  cases h3 : (p.num == q.num)
  · go_enter Tryz.func14, Tryz.ntmps14
    go_wp2_with fail
    go_ret
    exact ⟨by simp, HB.out _ _⟩
  cases h4 : (p.text.toList == q.text.toList)
  · go_enter Tryz.func14, Tryz.ntmps14
    go_wp2_with fail
    go_ret
    exact ⟨by simp, HB.out _ _⟩
  cases E
  · go_enter Tryz.func14, Tryz.ntmps14
    go_wp2_with (go_at_call 25; refine (CE.out _ (HB.out _ _)).mono ?_; rintro e wx ⟨rfl, hx⟩; have HX := hide (below_t5 (HB.out _ _) hx); clear hx)
    go_ret
    exact ⟨by simp, HX.out⟩
  · go_enter Tryz.func14, Tryz.ntmps14
    go_wp2_with (first | (go_at_call 25; refine (CE.out _ (HB.out _ _)).mono ?_; rintro e wx ⟨rfl, hx⟩; have HX := hide (below_t5 (HB.out _ _) hx); obtain ⟨s0, s1, s2, s3, s4, s5⟩ := HA.out.below (HZ.out _ _).1 hx; obtain ⟨t0, t1, t2, t3, t4, t5⟩ := HC.out.below (HZ.out _ _).2 hx; (try simp only [Nat.zero_add] at s5 t5); clear hx) | (go_at_call 26; refine (CF.out _ HX.out).mono ?_; rintro e wy ⟨rfl, hy⟩))
    go_ret
    exact ⟨by simp, below_t5 HX.out hy⟩
theorem osame_core : ∀ (M : Nat) (p q : Pay) (T U : BT Pay) (ka kb : Option Addr) (kc kd : Nat) (ia ib : Option Addr) (ic id : Nat) (w : World), fsize T < M → OIn w p T ka kc ia ic → OIn w q U kb kd ib id →
      Calls Tryz.prog 14 #[ov p ka kc ia (flen T) ic, ov q kb kd ib (flen U) id] w fun e w' => e = .returned (.bool (sameV p T q U)) ∧ Below w.heap.size w w'
  | 0 => fun _ _ _ _ _ _ _ _ _ _ _ _ _ h => absurd h (Nat.not_lt_zero _)
  | M + 1 => fun p q T U ka kb kc kd ia ib ic id w hM hp hq => osame_step M (osame_core M) p q T U ka kb kc kd ia ib ic id w (by omega) hp hq
theorem osame_any (p q : Pay) (T U : BT Pay) (ka kb : Option Addr) (kc kd : Nat) (ia ib : Option Addr) (ic id : Nat) (w : World) (hp : OIn w p T ka kc ia ic) (hq : OIn w q U kb kd ib id) :
    Calls Tryz.prog 14 #[ov p ka kc ia (flen T) ic, ov q kb kd ib (flen U) id] w fun e w' => e = .returned (.bool (sameV p T q U)) ∧ Below w.heap.size w w' :=
  osame_core _ p q T U ka kb kc kd ia ib ic id w (Nat.lt_succ_self _) hp hq
end Go.Proofs.YtcgoklacjniemaaGreatDoor
