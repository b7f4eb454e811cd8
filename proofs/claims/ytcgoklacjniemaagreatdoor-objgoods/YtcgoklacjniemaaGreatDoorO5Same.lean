/-
  What the reference's Same (chapter 5) answers.
-/
import Derived.Test.YtcgoklacjniemaaGreatDoorO5Sub
import Derived.Deep.RegionHeld3
import Derived.Deep.QuietTactic
import Derived.Deep.Draws
import Derived.BigQuiet
namespace Go.Proofs.YtcgoklacjniemaaGreatDoor
open Go.RowKit Go.Deep

def eqS (a b : ByteArray) : Bool := a.toList == b.toList
def keysEq : List ByteArray → List ByteArray → Bool
  | [], [] => true
  | a :: l, b :: m => eqS a b && keysEq l m
  | _, _ => false
/- all but the items -/
def payEq (p q : Pay) : Bool := p.kind == q.kind && p.flag == q.flag && p.num == q.num && eqS p.text q.text && keysEq p.keys q.keys
def sameF : BT Pay → BT Pay → Bool
  | .nil, .nil => true
  | .node _ _ p T N, .node _ _ q U M => payEq p q && sameF T U && sameF N M
  | _, _ => false
def sameV (p : Pay) (T : BT Pay) (q : Pay) (U : BT Pay) : Bool := payEq p q && sameF T U

theorem keysEq_len : ∀ {a b : List ByteArray}, keysEq a b = true → a.length = b.length
  | [], [], _ => rfl
  | _ :: _, _ :: _, h => by simp only [keysEq, Bool.and_eq_true] at h; simp [keysEq_len h.2]
  | [], _ :: _, h => by simp [keysEq] at h
  | _ :: _, [], h => by simp [keysEq] at h
theorem sameF_len : ∀ {T U : BT Pay}, sameF T U = true → flen T = flen U
  | .nil, .nil, _ => rfl
  | .node _ _ _ _ N, .node _ _ _ _ M, h => by simp only [sameF, Bool.and_eq_true] at h; simp [flen, sameF_len h.2]
  | .nil, .node _ _ _ _ _, h => by simp [sameF] at h
  | .node _ _ _ _ _, .nil, h => by simp [sameF] at h

theorem keysEq_step {a b : List ByteArray} {i : Nat} (h1 : i < a.length) (h2 : i < b.length) : keysEq (a.drop i) (b.drop i) = (eqS (a.getD i ByteArray.empty) (b.getD i ByteArray.empty) && keysEq (a.drop (i + 1)) (b.drop (i + 1))) := by
  rw [List.drop_eq_getElem_cons h1, List.drop_eq_getElem_cons h2, keysEq, List.getD_eq_getElem?_getD, List.getD_eq_getElem?_getD, List.getElem?_eq_getElem h1, List.getElem?_eq_getElem h2]
  rfl
theorem sameV_t {p q : Pay} {T U : BT Pay} (h : sameV p T q U = true) : p.kind = q.kind ∧ p.flag = q.flag ∧ p.num = q.num ∧ p.text.toList = q.text.toList ∧ p.keys.length = q.keys.length ∧ flen T = flen U := by
  unfold sameV payEq at h
  simp only [Bool.and_eq_true] at h
  obtain ⟨⟨⟨⟨⟨h1, h2⟩, h3⟩, h4⟩, h5⟩, h6⟩ := h
  exact ⟨eq_of_beq h1, eq_of_beq h2, eq_of_beq h3, eq_of_beq h4, keysEq_len h5, sameF_len h6⟩
theorem sameV_m {p q : Pay} {T U : BT Pay} (h : p.kind = q.kind ∧ p.flag = q.flag ∧ p.num = q.num ∧ p.text.toList = q.text.toList) : sameV p T q U = (keysEq p.keys q.keys && sameF T U) := by
  obtain ⟨h1, h2, h3, h4⟩ := h
  unfold sameV payEq eqS
  rw [h1, h2, h3, h4]
  simp
theorem below_d5 {V a b x : World} (h : Below V.heap.size V a) (hx : Below b.heap.size b x) (e0 : b.os = a.os) (e1 : b.tape = a.tape) (e2 : b.output = a.output) (e3 : b.heap = a.heap) : Below V.heap.size V x :=
  h.trans ⟨hx.os.trans e0, hx.tape.trans e1, hx.output.trans e2, e3 ▸ hx.size, fun k hk => by rw [hx.block k (by rw [e3]; exact Nat.lt_of_lt_of_le hk h.size), e3]⟩

set_option maxHeartbeats 4000000 in
theorem same_ne (p q : Pay) (T U : BT Pay) (ka kb : Option Addr) (kc kd : Nat) (ia ib : Option Addr) (ic id : Nat) (w : World)
    (hne : ¬ (p.kind = q.kind ∧ p.flag = q.flag ∧ p.num = q.num ∧ p.text.toList = q.text.toList ∧ p.keys.length = q.keys.length ∧ flen T = flen U)) :
    Calls Tryz.prog 15 #[ov p ka kc ia (flen T) ic, ov q kb kd ib (flen U) id] w fun e w' => e = .returned (.bool (sameV p T q U)) ∧ Below w.heap.size w w' := by
  have hR : sameV p T q U = false := by rw [Bool.eq_false_iff]; exact fun h => hne (sameV_t h)
  rw [hR]
  have HNE := hide hne
  clear hR hne
  go_enter Tryz.func15, Tryz.ntmps15
  go_wp2_with fail
  all_goals first | (go_ret; exact ⟨rfl, ((Below.refl _ _).alloc (Nat.le_refl _) _).alloc (by simp) _⟩) | skip
  exfalso
  refine HNE.out ⟨by assumption, by assumption, by assumption, by assumption, by omega, ?_⟩
  rename_i hx _ _
  rw [bne_eq_false_iff_eq] at hx
  omega

set_option maxHeartbeats 4000000 in
theorem same_step (M : Nat)
    (ih : ∀ (p q : Pay) (T U : BT Pay) (ka kb : Option Addr) (kc kd : Nat) (ia ib : Option Addr) (ic id : Nat) (w : World), fsize T < M → OIn w p T ka kc ia ic → OIn w q U kb kd ib id →
      Calls Tryz.prog 15 #[ov p ka kc ia (flen T) ic, ov q kb kd ib (flen U) id] w fun e w' => e = .returned (.bool (sameV p T q U)) ∧ Below w.heap.size w w')
    (p q : Pay) (T U : BT Pay) (ka kb : Option Addr) (kc kd : Nat) (ia ib : Option Addr) (ic id : Nat) (w : World) (hM : fsize T ≤ M) (hp : OIn w p T ka kc ia ic) (hq : OIn w q U kb kd ib id) :
    Calls Tryz.prog 15 #[ov p ka kc ia (flen T) ic, ov q kb kd ib (flen U) id] w fun e w' => e = .returned (.bool (sameV p T q U)) ∧ Below w.heap.size w w' := by
  have hl1 : (flen T : Int) ≤ 9223372036854775807 := by have h := hp.2.2.1; have h' := hp.2.2.2.1; omega
  have hl2 : (flen U : Int) ≤ 9223372036854775807 := by have h := hq.2.2.1; have h' := hq.2.2.2.1; omega
  have hl3 : (p.keys.length : Int) ≤ 9223372036854775807 := by have h := hp.2.1.2.1; have h' := hp.2.1.2.2; omega
  have hl4 : (q.keys.length : Int) ≤ 9223372036854775807 := by have h := hq.2.1.2.1; have h' := hq.2.1.2.2; omega
  by_cases hne : p.kind = q.kind ∧ p.flag = q.flag ∧ p.num = q.num ∧ p.text.toList = q.text.toList ∧ p.keys.length = q.keys.length ∧ flen T = flen U
  case neg => exact same_ne p q T U ka kb kc kd ia ib ic id w hne
  obtain ⟨e1, e2, e3, e4, e5, e6⟩ := hne
  rw [sameV_m ⟨e1, e2, e3, e4⟩]
  obtain ⟨R, hR⟩ : ∃ R, (keysEq p.keys q.keys && sameF T U) = R := ⟨_, rfl⟩
  rw [hR]
  have HR := hide hR
  have HP := hide hp
  have HQ := hide hq
  have IH := hide ih
  have HM := hide hM
  have f1 : (p.kind != q.kind) = false := by rw [e1]; simp
  have E2 := hide e2
  have f3 : (p.num != q.num) = false := by rw [e3]; simp
  have f4 : (p.text.toList == q.text.toList) = true := by rw [e4]; simp
  have f5 : ((p.keys.length : Int) != (q.keys.length : Int)) = false := by rw [e5]; simp
  have f6 : ((flen T : Int) != (flen U : Int)) = false := by rw [e6]; simp
  have E5 := hide e5
  have E6 := hide e6
  clear hR hp hq ih hM e1 e2 e3 e4 e5 e6
  go_enter Tryz.func15, Tryz.ntmps15
  go_wp2_with fail
  any_goals (first | exact absurd E2.out (by assumption) | skip)
  have HA := hide ((six_box w p ka kc ia (flen T) ic 25).below (by simp) ((Below.refl _ _).alloc (Nat.le_refl _) (.cells #[.int .i64 q.kind, .bool q.flag, .int .i64 q.num, .string q.text, .slice kb q.keys.length kd, .slice ib (flen U) id] 25)))
  have HC := six_box (w.alloc (.cells #[.int .i64 p.kind, .bool p.flag, .int .i64 p.num, .string p.text, .slice ka p.keys.length kc, .slice ia (flen T) ic] 25)) q kb kd ib (flen U) id 25
  rw [show (w.alloc (.cells #[.int .i64 p.kind, .bool p.flag, .int .i64 p.num, .string p.text, .slice ka p.keys.length kc, .slice ia (flen T) ic] 25)).heap.size = w.heap.size + 1 by simp] at HC
  have HC := hide HC
  have HB : Hid (∀ c d, Below w.heap.size w ((w.alloc c).alloc d)) := hide (fun c d => ((Below.refl _ _).alloc (Nat.le_refl _) c).alloc (by simp) d)
  go_loopw [5] (fun vi wr => ∃ i : Nat, vi = .int .i64 i ∧ Hid (i ≤ p.keys.length ∧ keysEq (p.keys.drop i) (q.keys.drop i) = keysEq p.keys q.keys ∧ Below w.heap.size w wr ∧ Six wr w.heap.size 0 p ka kc ia (flen T) ic ∧ Six wr (w.heap.size + 1) 0 q kb kd ib (flen U) id ∧ w.heap.size + 1 < wr.heap.size)) (fun vi _ => p.keys.length - (intOf vi).toNat)
  case atStart =>
    have g := HA.out
    have g2 := HC.out
    rw [E2.out] at g g2
    exact ⟨0, rfl, hide ⟨Nat.zero_le _, rfl, HB.out _ _, g, g2, by simp⟩⟩
  case round =>
    clear HA HC HB
    obtain ⟨i, rfl, HI⟩ := hrel
    obtain ⟨hi, hk, hbel, h6, h7, hsz⟩ := HI.out
    clear HI
    have HK := hide hk
    have HBL := hide hbel
    have H6 := hide h6
    have H7 := hide h7
    obtain ⟨s0, s1, s2, s3, s4, s5⟩ := h6
    obtain ⟨t0, t1, t2, t3, t4, t5⟩ := h7
    simp only [Nat.zero_add] at s1 s2 s3 s4 s5 t1 t2 t3 t4 t5
    have e5 := E5.out
    by_cases hlt : i < p.keys.length
    case pos =>
      obtain ⟨b, off, rfl, hb, hc⟩ := HP.out.2.1.1.get5 hlt
      obtain ⟨b', off', rfl, hb', hc'⟩ := HQ.out.2.1.1.get5 (show i < q.keys.length by omega)
      have c1 := (hbel.cell (p := ⟨b, off + i, none⟩) hb).trans hc
      have c2 := (hbel.cell (p := ⟨b', off' + i, none⟩) hb').trans hc'
      have st := keysEq_step hlt (show i < q.keys.length by omega)
      have hlt1 : (i : Int) < (p.keys.length : Int) := by omega
      have hlt2 : (i : Int) < (q.keys.length : Int) := by omega
      have hi0 : (0 : Int) ≤ (i : Int) := by omega
      generalize p.keys.getD i ByteArray.empty = x at c1 st
      generalize q.keys.getD i ByteArray.empty = y at c2 st
      have HLT := hide hlt
      rw [hk] at st
      clear hc hc' hbel hk hlt hi e5
      cases hq : (x.toList == y.toList)
      · obtain rfl : R = false := by rw [← HR.out, st]; unfold eqS; rw [hq]; simp
        clear st
        go_wp2_with fail
        go_quiet (fail)
        go_wp2_with fail
        go_ret
        exact ⟨rfl, below_drewN HBL.out _⟩
      · have ST := hide (show keysEq (p.keys.drop (i + 1)) (q.keys.drop (i + 1)) = keysEq p.keys q.keys by rw [st]; unfold eqS; rw [hq, Bool.true_and])
        clear st
        go_wp2_with fail
        go_quiet (fail)
        go_wp2_with fail
        go_roundw
        case rel => exact ⟨i + 1, by go_num, hide ⟨HLT.out, ST.out, below_drewN HBL.out _, H6.out, H7.out, hsz⟩⟩
        case measure => have := HLT.out; simp [intOf]; omega
    case neg =>
      have hlt' : (p.keys.length : Int) ≤ (i : Int) := by omega
      have HF : Hid (sameF T U = R) := hide (by
        have : keysEq p.keys q.keys = true := by rw [← hk, List.drop_of_length_le (by omega), List.drop_of_length_le (by omega)]; rfl
        rw [← HR.out, this, Bool.true_and])
      clear hk hbel hi e5 hlt'
      go_wp2_with fail
      clear s0 s1 s2 s3 s4 s5 t0 t1 t2 t3 t4 t5
      obtain ⟨b, off, hia, hrows⟩ := OIn.at_ HP.out
      obtain ⟨b', off', hib, hrows'⟩ := OIn.at_ HQ.out
      have HRA := hide hrows
      have HRB := hide hrows'
      have HIA := hide hia
      have HIB := hide hib
      clear hrows hrows' hia hib
      go_loopw [6] (fun vk wt => ∃ (k : Nat) (A B : BT Pay), vk = .int .i64 k ∧ Hid (flen A + k = flen T ∧ flen B + k = flen U ∧ fsize A ≤ fsize T ∧ Rows w A b (off + k * 6) ∧ Rows w B b' (off' + k * 6) ∧ sameF A B = R ∧ Below w.heap.size w wt ∧ Six wt w.heap.size 0 p ka kc ia (flen T) ic ∧ Six wt (w.heap.size + 1) 0 q kb kd ib (flen U) id ∧ w.heap.size + 1 < wt.heap.size)) (fun vk _ => flen T - (intOf vk).toNat)
      case atStart => exact ⟨0, T, U, rfl, hide ⟨by omega, by omega, Nat.le_refl _, by simpa using HRA.out, by simpa using HRB.out, HF.out, HBL.out, H6.out, H7.out, hsz⟩⟩
      case round =>
        clear HBL H6 H7 HRA HRB HF hsz
        obtain ⟨k, A, B, rfl, HV⟩ := hrel
        obtain ⟨hk1, hk2, hu, hra, hrb, hs, hbel, h6, h7, hsz⟩ := HV.out
        clear HV
        have HBL := hide hbel
        have H6 := hide h6
        have H7 := hide h7
        obtain ⟨s0, s1, s2, s3, s4, s5⟩ := h6
        obtain ⟨t0, t1, t2, t3, t4, t5⟩ := h7
        simp only [Nat.zero_add] at s1 s2 s3 s4 s5 t1 t2 t3 t4 t5
        have e6 := E6.out
        cases A with
        | nil =>
          have hB : B = .nil := flen_zero (by simp [flen] at hk1; omega)
          subst hB
          obtain rfl : true = R := hs
          have hk' : (flen T : Int) ≤ (k : Int) := by simp [flen] at hk1; omega
          clear hk1 hk2 hra hrb hbel hu e6
          go_wp2_with fail
          go_ret
          exact ⟨rfl, HBL.out⟩
        | node b0 o0 p1 T1 N1 =>
          cases B with
          | nil => simp [flen] at hk1 hk2; omega
          | node b1 o1 q1 U1 N2 =>
            obtain ⟨⟨ka', kc', ia', ic', g6, gin⟩, grest⟩ := rows_node.1 hra
            obtain ⟨⟨kb', kd', ib', id', g7, gin'⟩, grest'⟩ := rows_node.1 hrb
            obtain rfl | ⟨rfl, hbz⟩ := HIA.out
            · simp [flen] at hk1
            obtain rfl | ⟨rfl, hbz'⟩ := HIB.out
            · simp [flen] at hk2
            have hlt : (k : Int) < (flen T : Int) := by simp [flen] at hk1; omega
            have hlt2 : (k : Int) < (flen U : Int) := by simp [flen] at hk2; omega
            have hk0 : (0 : Int) ≤ (k : Int) := by omega
            have hst : fsize T1 < M := by have := HM.out; simp [fsize] at hu; omega
            have CI := fun (wt' : World) (h : Below w.heap.size w wt') => IH.out p1 q1 T1 U1 ka' kb' kc' kd' ia' ib' ic' id' wt' hst (gin.below h) (gin'.below h)
            obtain ⟨c0, c1, c2, c3, c4, c5⟩ := g6.below hbz hbel
            obtain ⟨d0, d1, d2, d3, d4, d5⟩ := g7.below hbz' hbel
            have hs' : (sameV p1 T1 q1 U1 && sameF N1 N2) = R := hs
            generalize sameV p1 T1 q1 U1 = r at CI hs'
            have CI := hide CI
            have HS := hide hs'
            have HK := hide (show flen N1 + (k + 1) = flen T ∧ flen N2 + (k + 1) = flen U ∧ fsize N1 ≤ fsize T by simp [flen, fsize] at hk1 hk2 hu; omega)
            have HRA := hide grest
            have HRB := hide grest'
            clear hk1 hk2 hu hra hrb hs hs' hbel g6 g7 gin gin' grest grest' e6
            have KS : Hid (∀ x, Below wr.heap.size wr x → x.cell? ⟨w.heap.size, 5, none⟩ = some (.slice (some ⟨b, off, none⟩) (flen T) ic) ∧ x.cell? ⟨w.heap.size + 1, 5, none⟩ = some (.slice (some ⟨b', off', none⟩) (flen U) id) ∧ x.cell? ⟨b, off + k * 6, none⟩ = some (.int .i64 p1.kind) ∧ x.cell? ⟨b, off + k * 6 + 1, none⟩ = some (.bool p1.flag) ∧ x.cell? ⟨b, off + k * 6 + 2, none⟩ = some (.int .i64 p1.num) ∧ x.cell? ⟨b, off + k * 6 + 3, none⟩ = some (.string p1.text) ∧ x.cell? ⟨b, off + k * 6 + 4, none⟩ = some (.slice ka' p1.keys.length kc') ∧ x.cell? ⟨b, off + k * 6 + 5, none⟩ = some (.slice ia' (flen T1) ic') ∧ x.cell? ⟨b', off' + k * 6, none⟩ = some (.int .i64 q1.kind) ∧ x.cell? ⟨b', off' + k * 6 + 1, none⟩ = some (.bool q1.flag) ∧ x.cell? ⟨b', off' + k * 6 + 2, none⟩ = some (.int .i64 q1.num) ∧ x.cell? ⟨b', off' + k * 6 + 3, none⟩ = some (.string q1.text) ∧ x.cell? ⟨b', off' + k * 6 + 4, none⟩ = some (.slice kb' q1.keys.length kd') ∧ x.cell? ⟨b', off' + k * 6 + 5, none⟩ = some (.slice ib' (flen U1) id')) := hide (fun x hx => by
              have z0 : w.heap.size < wr.heap.size := by omega
              have z1 : b < wr.heap.size := Nat.lt_of_lt_of_le hbz HBL.out.size
              have z2 : b' < wr.heap.size := Nat.lt_of_lt_of_le hbz' HBL.out.size
              exact ⟨(hx.cell (p := ⟨w.heap.size, 5, none⟩) z0).trans s5, (hx.cell (p := ⟨w.heap.size + 1, 5, none⟩) hsz).trans t5,
                (hx.cell (p := ⟨b, off + k * 6, none⟩) z1).trans c0, (hx.cell (p := ⟨b, off + k * 6 + 1, none⟩) z1).trans c1, (hx.cell (p := ⟨b, off + k * 6 + 2, none⟩) z1).trans c2, (hx.cell (p := ⟨b, off + k * 6 + 3, none⟩) z1).trans c3, (hx.cell (p := ⟨b, off + k * 6 + 4, none⟩) z1).trans c4, (hx.cell (p := ⟨b, off + k * 6 + 5, none⟩) z1).trans c5,
                (hx.cell (p := ⟨b', off' + k * 6, none⟩) z2).trans d0, (hx.cell (p := ⟨b', off' + k * 6 + 1, none⟩) z2).trans d1, (hx.cell (p := ⟨b', off' + k * 6 + 2, none⟩) z2).trans d2, (hx.cell (p := ⟨b', off' + k * 6 + 3, none⟩) z2).trans d3, (hx.cell (p := ⟨b', off' + k * 6 + 4, none⟩) z2).trans d4, (hx.cell (p := ⟨b', off' + k * 6 + 5, none⟩) z2).trans d5⟩)
            have HX : Hid (Below wr.heap.size wr wr) := hide (Below.refl _ _)
            cases r
            · obtain rfl : false = R := HS.out
              go_wp2_with fail
              go_region_held3 (fun x => x.cell? ⟨w.heap.size, 5, none⟩ = some (.slice (some ⟨b, off, none⟩) (flen T) ic) ∧ x.cell? ⟨w.heap.size + 1, 5, none⟩ = some (.slice (some ⟨b', off', none⟩) (flen U) id) ∧ x.cell? ⟨b, off + k * 6, none⟩ = some (.int .i64 p1.kind) ∧ x.cell? ⟨b, off + k * 6 + 1, none⟩ = some (.bool p1.flag) ∧ x.cell? ⟨b, off + k * 6 + 2, none⟩ = some (.int .i64 p1.num) ∧ x.cell? ⟨b, off + k * 6 + 3, none⟩ = some (.string p1.text) ∧ x.cell? ⟨b, off + k * 6 + 4, none⟩ = some (.slice ka' p1.keys.length kc') ∧ x.cell? ⟨b, off + k * 6 + 5, none⟩ = some (.slice ia' (flen T1) ic') ∧ x.cell? ⟨b', off' + k * 6, none⟩ = some (.int .i64 q1.kind) ∧ x.cell? ⟨b', off' + k * 6 + 1, none⟩ = some (.bool q1.flag) ∧ x.cell? ⟨b', off' + k * 6 + 2, none⟩ = some (.int .i64 q1.num) ∧ x.cell? ⟨b', off' + k * 6 + 3, none⟩ = some (.string q1.text) ∧ x.cell? ⟨b', off' + k * 6 + 4, none⟩ = some (.slice kb' q1.keys.length kd') ∧ x.cell? ⟨b', off' + k * 6 + 5, none⟩ = some (.slice ib' (flen U1) id')) (first | exact KS.out _ (below_d5 HX.out (Below.refl _ _) rfl rfl rfl rfl) | go_keep) ((first | (go_at_call 15; refine (CI.out _ ?_).mono ?_; exact below_d5 HBL.out (Below.refl _ _) rfl rfl rfl rfl; rintro e wy ⟨rfl, hy⟩; replace HX := hide (below_d5 HX.out hy rfl rfl rfl rfl); clear hy)))
              go_wp2_with fail
              go_ret
              exact ⟨rfl, below_t5 HBL.out HX.out⟩
            · go_wp2_with fail
              rename_i k0
              have HK0 := hide k0
              clear k0
              go_region_held3 (fun x => x.cell? ⟨w.heap.size, 5, none⟩ = some (.slice (some ⟨b, off, none⟩) (flen T) ic) ∧ x.cell? ⟨w.heap.size + 1, 5, none⟩ = some (.slice (some ⟨b', off', none⟩) (flen U) id) ∧ x.cell? ⟨b, off + k * 6, none⟩ = some (.int .i64 p1.kind) ∧ x.cell? ⟨b, off + k * 6 + 1, none⟩ = some (.bool p1.flag) ∧ x.cell? ⟨b, off + k * 6 + 2, none⟩ = some (.int .i64 p1.num) ∧ x.cell? ⟨b, off + k * 6 + 3, none⟩ = some (.string p1.text) ∧ x.cell? ⟨b, off + k * 6 + 4, none⟩ = some (.slice ka' p1.keys.length kc') ∧ x.cell? ⟨b, off + k * 6 + 5, none⟩ = some (.slice ia' (flen T1) ic') ∧ x.cell? ⟨b', off' + k * 6, none⟩ = some (.int .i64 q1.kind) ∧ x.cell? ⟨b', off' + k * 6 + 1, none⟩ = some (.bool q1.flag) ∧ x.cell? ⟨b', off' + k * 6 + 2, none⟩ = some (.int .i64 q1.num) ∧ x.cell? ⟨b', off' + k * 6 + 3, none⟩ = some (.string q1.text) ∧ x.cell? ⟨b', off' + k * 6 + 4, none⟩ = some (.slice kb' q1.keys.length kd') ∧ x.cell? ⟨b', off' + k * 6 + 5, none⟩ = some (.slice ib' (flen U1) id')) (first | exact KS.out _ (below_d5 HX.out (Below.refl _ _) rfl rfl rfl rfl) | go_keep) ((first | (go_at_call 15; refine (CI.out _ ?_).mono ?_; exact below_d5 HBL.out (Below.refl _ _) rfl rfl rfl rfl; rintro e wy ⟨rfl, hy⟩; replace HX := hide (below_d5 HX.out hy rfl rfl rfl rfl); clear hy)))
              all_goals
                refine HK0.out _ _ ?_
                go_wp2_with fail
                go_roundw
                case rel => exact ⟨k + 1, N1, N2, by go_num, hide ⟨HK.out.1, HK.out.2.1, HK.out.2.2, by have := HRA.out; rw [show off + (k + 1) * 6 = off + k * 6 + 6 by omega]; exact this, by have := HRB.out; rw [show off' + (k + 1) * 6 = off' + k * 6 + 6 by omega]; exact this, by have := HS.out; rwa [Bool.true_and] at this, below_t5 HBL.out HX.out, H6.out.below (by omega) HX.out, H7.out.below hsz HX.out, Nat.lt_of_lt_of_le hsz HX.out.size⟩⟩
                case measure => have := HK.out; simp [intOf]; omega

theorem same_core : ∀ (M : Nat) (p q : Pay) (T U : BT Pay) (ka kb : Option Addr) (kc kd : Nat) (ia ib : Option Addr) (ic id : Nat) (w : World), fsize T < M → OIn w p T ka kc ia ic → OIn w q U kb kd ib id →
      Calls Tryz.prog 15 #[ov p ka kc ia (flen T) ic, ov q kb kd ib (flen U) id] w fun e w' => e = .returned (.bool (sameV p T q U)) ∧ Below w.heap.size w w'
  | 0 => fun _ _ _ _ _ _ _ _ _ _ _ _ _ h => absurd h (Nat.not_lt_zero _)
  | M + 1 => fun p q T U ka kb kc kd ia ib ic id w hM hp hq => same_step M (same_core M) p q T U ka kb kc kd ia ib ic id w (by omega) hp hq
end Go.Proofs.YtcgoklacjniemaaGreatDoor
