/-
  Joined: O5Sm, O5Same, O5Sam, O5Keys, O5Fit, O5Goo, O5Hex.
-/
import Derived.Test.YtalmcdbdibpgkaaGreatDoorBA
import Derived.Test.YtalmcdbdibpgkaaGreatDoorShelf
import Derived.WalkLawsBesides
import Derived.Lib.IndexLaws
import Derived.Deep.RegionHeld3
import Derived.Deep.QuietTactic
import Derived.Deep.Draws
import Derived.BigQuiet
import Derived.Maps.OwnSet
import Derived.StringKeys
import Derived.Deep.RegionLaw
/-
  What the landed small functions answer: isBlank, isDelimiter, isPlain, isName, nests, must.
-/
namespace Go.Proofs.YtalmcdbdibpgkaaGreatDoor
open Go.RowKit Go.Deep

theorem oblank_any (b : Nat) (w : World) (h : b < 256) :
    Calls Tryz.prog 69 #[.int .u8 b] w fun e w' => e = .returned (.bool (isBl b)) ∧ w' = w := by
  by_cases hin : b = 9 ∨ b = 10 ∨ b = 12 ∨ b = 13 ∨ b = 32
  · have e : isBl b = true := decide_eq_true hin
    rw [e]
    rcases hin with rfl | rfl | rfl | rfl | rfl
    all_goals
      clear h e
      go_enter Tryz.func69, Tryz.ntmps69
      go_wp2
      go_ret
      exact ⟨rfl, rfl⟩
  · have e : isBl b = false := decide_eq_false hin
    rw [e]
    have n9 : ((b : Int) == 9) = false := by rw [beq_eq_false_iff_ne]; omega
    have n10 : ((b : Int) == 10) = false := by rw [beq_eq_false_iff_ne]; omega
    have n12 : ((b : Int) == 12) = false := by rw [beq_eq_false_iff_ne]; omega
    have n13 : ((b : Int) == 13) = false := by rw [beq_eq_false_iff_ne]; omega
    have n32 : ((b : Int) == 32) = false := by rw [beq_eq_false_iff_ne]; omega
    clear hin e
    go_enter Tryz.func69, Tryz.ntmps69
    go_wp2
    go_ret
    exact ⟨rfl, rfl⟩
theorem delim_idx : ∀ b : Fin 256, decide (0 ≤ Lib.indexByte [40, 41, 60, 62, 91, 93, 123, 125, 47, 37] b.val.toUInt8) = isDl b.val := by decide +kernel
theorem odelim_any (b : Nat) (w : World) (h : b < 256) :
    Calls Tryz.prog 89 #[.int .u8 b] w fun e w' => e = .returned (.bool (isDl b)) ∧ w' = w := by
  have C := hide (Any.strings_IndexByte lays137 ⟨#[40, 41, 60, 62, 91, 93, 123, 125, 47, 37]⟩ (b : Int) w)
  have hd := delim_idx ⟨b, h⟩
  simp only at hd
  rw [show ((b : Int).toNat.toUInt8) = b.toUInt8 by simp] at C
  obtain ⟨I, hI⟩ : ∃ I, Lib.indexByte [40, 41, 60, 62, 91, 93, 123, 125, 47, 37] b.toUInt8 = I := ⟨_, rfl⟩
  rw [hI] at hd
  rw [← hd]
  have C : Hid (Calls Tryz.prog 97 #[.string ⟨#[40, 41, 60, 62, 91, 93, 123, 125, 47, 37]⟩, .int .u8 b] w fun e w' => e = .returned (.int .i64 I) ∧ w' = w) := hide (by rw [← hI]; exact C.out)
  clear hd hI
  go_enter Tryz.func89, Tryz.ntmps89
  go_wp2_with (go_at_call 97; refine C.out.mono ?_; rintro e w1 ⟨rfl, rfl⟩)
  go_ret
  exact ⟨rfl, rfl⟩
def isPl (b : Nat) : Bool := decide (32 < b) && decide (b ≤ 126) && decide (b ≠ 35) && !isDl b
theorem plain_any (b : Nat) (w : World) (h : b < 256) :
    Calls Tryz.prog 63 #[.int .u8 b] w fun e w' => e = .returned (.bool (isPl b)) ∧ w' = w := by
  have C := hide (fun w => odelim_any b w h)
  unfold isPl
  generalize isDl b = D at C
  have e1 : decide (32 < b) = decide ((32 : Int) < (b : Int)) := by simp; omega
  have e2 : decide (b ≤ 126) = decide ((b : Int) ≤ 126) := by simp; omega
  have e3 : decide (b ≠ 35) = ((b : Int) != 35) := by rw [Bool.eq_iff_iff]; simp; omega
  rw [e1, e2, e3]
  clear e1 e2 e3
  cases h1 : decide ((32 : Int) < (b : Int)) <;> cases h2 : decide ((b : Int) ≤ 126) <;> cases h3 : ((b : Int) != 35)
  all_goals
    go_enter Tryz.func63, Tryz.ntmps63
    go_wp2_with (go_at_call 89; refine (C.out _).mono ?_; rintro e w1 ⟨rfl, rfl⟩)
    go_ret
    exact ⟨by simp, rfl⟩
theorem idx_all (l : List UInt8) : decide (Lib.indexByte l (0 : Int).toNat.toUInt8 < 0) = l.all fun c => c.toNat != 0 := by
  have hz : (0 : Int).toNat.toUInt8 = 0 := rfl
  rw [hz]
  induction l with
  | nil => rfl
  | cons c l ih =>
    rw [List.all_cons, ← ih, Lib.indexByte]
    have h0 := Lib.indexByte_ge l 0
    by_cases hc : c = 0
    · subst hc
      simp
    · have hb : (c == 0) = false := by
        rw [beq_eq_false_iff_ne]; exact hc
      have hn : (c.toNat != 0) = true := by
        simp only [bne_iff_ne]
        intro h
        exact hc (UInt8.toNat_inj.1 (by simpa using h))
      rw [hb, hn, Bool.true_and]
      simp only [Bool.false_eq_true, if_false]
      split
      · rename_i h
        rw [eq_of_beq h]
      · rename_i h
        rw [decide_eq_false (by simp at h; omega), decide_eq_false (by simp at h; omega)]
theorem oname_any (s : ByteArray) (w : World) :
    Calls Tryz.prog 79 #[.string s] w fun e w' => e = .returned (.bool (nameB s.data.toList)) ∧ w' = w := by
  have C := hide (fun w => Any.strings_IndexByte lays137 s (0 : Int) w)
  have hb := idx_all s.data.toList
  generalize Lib.indexByte s.data.toList (0 : Int).toNat.toUInt8 = I at C hb
  unfold nameB
  rw [← hb, ← Lib.size_eq]
  clear hb
  have C : Hid (∀ w, Calls Tryz.prog 97 #[.string s, .int .u8 0] w fun e w' => e = .returned (.int .i64 I) ∧ w' = w) := C
  have E := Lib.bytes_beq_iff s ⟨#[]⟩
  by_cases h0 : s = ⟨#[]⟩
  · subst h0
    clear E
    go_enter Tryz.func79, Tryz.ntmps79
    go_wp2_with (go_at_call 97; refine (C.out _).mono ?_; rintro e w1 ⟨rfl, rfl⟩)
    all_goals
      go_ret
      exact ⟨rfl, rfl⟩
  · have hne : ¬ s.toList = [] := fun h => h0 (E.1 (by rw [h, ByteArray.toList_eq]; rfl))
    have h1 : 1 ≤ s.size := by
      rcases Nat.eq_zero_or_pos s.size with h | h
      · exact absurd (ByteArray.ext (Array.eq_empty_of_size_eq_zero h)) h0
      · exact h
    by_cases h2 : s.size ≤ 127
    · have h2' : decide ((s.size : Int) ≤ 127) = true := by simp; omega
      rw [decide_eq_true (show 1 ≤ s.size ∧ s.size ≤ 127 from ⟨h1, h2⟩)]
      clear E h0 h1 h2
      go_enter Tryz.func79, Tryz.ntmps79
      go_wp2_with (go_at_call 97; refine (C.out _).mono ?_; rintro e w1 ⟨rfl, rfl⟩)
      all_goals
        go_ret
        exact ⟨by simp [hne], rfl⟩
    · have h2' : decide ((s.size : Int) ≤ 127) = false := by simp; omega
      rw [decide_eq_false (show ¬ (1 ≤ s.size ∧ s.size ≤ 127) by omega)]
      clear E h0 h1 h2
      go_enter Tryz.func79, Tryz.ntmps79
      go_wp2_with (go_at_call 97; refine (C.out _).mono ?_; rintro e w1 ⟨rfl, rfl⟩)
      all_goals
        go_ret
        exact ⟨by simp, rfl⟩
theorem nests_any (p : Pay) (ka : Option Addr) (kc : Nat) (ia : Option Addr) (n ic : Nat) (w : World) :
    Calls Tryz.prog 57 #[ov p ka kc ia n ic] w fun e w' => e = .returned (.bool (cont p)) ∧ Below w.heap.size w w' := by
  unfold cont
  cases h6 : (p.kind == 6) <;> cases h7 : (p.kind == 7)
  all_goals
    go_enter Tryz.func57, Tryz.ntmps57
    go_wp2
    go_ret
    exact ⟨by simp, (Below.refl _ _).alloc (Nat.le_refl _) _⟩
/- what a reader gives up with -/
abbrev thrown : Ending := .panicked [{ v := .iface 29 (.int .i64 50), recovered := false }]
theorem must_any (t : Bool) (w : World) : Calls Tryz.prog 40 #[.bool t] w fun e w' => (e = if t then .returned (.tuple #[]) else thrown) ∧ w' = w := by
  have hnot : ∀ (x : Bool) (w : World), (Op.unary .not (.bool x)).run Tryz.prog w = .ok (.bool (!x)) w := fun _ _ => rfl
  cases t
  · go_enter Tryz.func40, Tryz.ntmps40
    go_wp2
    exact ⟨rfl, rfl, rfl⟩
  · go_enter Tryz.func40, Tryz.ntmps40
    go_wp2
    go_end0
    exact ⟨rfl, rfl⟩
end Go.Proofs.YtalmcdbdibpgkaaGreatDoor
/-
  What the reference's Same (chapter 5) answers.
-/
namespace Go.Proofs.YtalmcdbdibpgkaaGreatDoor
open Go.RowKit Go.Deep

def eqS (a b : ByteArray) : Bool := a.toList == b.toList
def keysEq : List ByteArray → List ByteArray → Bool
  | [], [] => true
  | a :: l, b :: m => eqS a b && keysEq l m
  | _, _ => false
/- all but the items -/
def payEq (p q : Pay) : Bool := p.kind == q.kind && p.flag == q.flag && p.num == q.num && eqS p.text q.text && keysEq p.keys q.keys
def sameF : BT Pay → BT Pay → Bool
  | .nil, .nil => true
  | .node _ _ p T N, .node _ _ q U M => payEq p q && sameF T U && sameF N M
  | _, _ => false
def sameV (p : Pay) (T : BT Pay) (q : Pay) (U : BT Pay) : Bool := payEq p q && sameF T U

theorem keysEq_len : ∀ {a b : List ByteArray}, keysEq a b = true → a.length = b.length
  | [], [], _ => rfl
  | _ :: _, _ :: _, h => by simp only [keysEq, Bool.and_eq_true] at h; simp [keysEq_len h.2]
  | [], _ :: _, h => by simp [keysEq] at h
  | _ :: _, [], h => by simp [keysEq] at h
theorem sameF_len : ∀ {T U : BT Pay}, sameF T U = true → flen T = flen U
  | .nil, .nil, _ => rfl
  | .node _ _ _ _ N, .node _ _ _ _ M, h => by simp only [sameF, Bool.and_eq_true] at h; simp [flen, sameF_len h.2]
  | .nil, .node _ _ _ _ _, h => by simp [sameF] at h
  | .node _ _ _ _ _, .nil, h => by simp [sameF] at h

theorem keysEq_step {a b : List ByteArray} {i : Nat} (h1 : i < a.length) (h2 : i < b.length) : keysEq (a.drop i) (b.drop i) = (eqS (a.getD i ByteArray.empty) (b.getD i ByteArray.empty) && keysEq (a.drop (i + 1)) (b.drop (i + 1))) := by
  rw [List.drop_eq_getElem_cons h1, List.drop_eq_getElem_cons h2, keysEq, List.getD_eq_getElem?_getD, List.getD_eq_getElem?_getD, List.getElem?_eq_getElem h1, List.getElem?_eq_getElem h2]
  rfl
theorem sameV_t {p q : Pay} {T U : BT Pay} (h : sameV p T q U = true) : p.kind = q.kind ∧ p.flag = q.flag ∧ p.num = q.num ∧ p.text.toList = q.text.toList ∧ p.keys.length = q.keys.length ∧ flen T = flen U := by
  unfold sameV payEq at h
  simp only [Bool.and_eq_true] at h
  obtain ⟨⟨⟨⟨⟨h1, h2⟩, h3⟩, h4⟩, h5⟩, h6⟩ := h
  exact ⟨eq_of_beq h1, eq_of_beq h2, eq_of_beq h3, eq_of_beq h4, keysEq_len h5, sameF_len h6⟩
theorem sameV_m {p q : Pay} {T U : BT Pay} (h : p.kind = q.kind ∧ p.flag = q.flag ∧ p.num = q.num ∧ p.text.toList = q.text.toList) : sameV p T q U = (keysEq p.keys q.keys && sameF T U) := by
  obtain ⟨h1, h2, h3, h4⟩ := h
  unfold sameV payEq eqS
  rw [h1, h2, h3, h4]
  simp
theorem below_d5 {V a b x : World} (h : Below V.heap.size V a) (hx : Below b.heap.size b x) (e0 : b.os = a.os) (e1 : b.tape = a.tape) (e2 : b.output = a.output) (e3 : b.heap = a.heap) : Below V.heap.size V x :=
  h.trans ⟨hx.os.trans e0, hx.tape.trans e1, hx.output.trans e2, e3 ▸ hx.size, fun k hk => by rw [hx.block k (by rw [e3]; exact Nat.lt_of_lt_of_le hk h.size), e3]⟩

set_option maxHeartbeats 4000000 in
theorem same_ne (p q : Pay) (T U : BT Pay) (ka kb : Option Addr) (kc kd : Nat) (ia ib : Option Addr) (ic id : Nat) (w : World)
    (hne : ¬ (p.kind = q.kind ∧ p.flag = q.flag ∧ p.num = q.num ∧ p.text.toList = q.text.toList ∧ p.keys.length = q.keys.length ∧ flen T = flen U)) :
    Calls Tryz.prog 13 #[ov p ka kc ia (flen T) ic, ov q kb kd ib (flen U) id] w fun e w' => e = .returned (.bool (sameV p T q U)) ∧ Below w.heap.size w w' := by
  have hR : sameV p T q U = false := by rw [Bool.eq_false_iff]; exact fun h => hne (sameV_t h)
  rw [hR]
  have HNE := hide hne
  clear hR hne
  go_enter Tryz.func13, Tryz.ntmps13
  go_wp2_with fail
  all_goals first | (go_ret; exact ⟨rfl, ((Below.refl _ _).alloc (Nat.le_refl _) _).alloc (by simp) _⟩) | skip
  exfalso
  refine HNE.out ⟨by assumption, by assumption, by assumption, by assumption, by omega, ?_⟩
  rename_i hx _ _
  rw [bne_eq_false_iff_eq] at hx
  omega

set_option maxHeartbeats 4000000 in
theorem same_step (M : Nat)
    (ih : ∀ (p q : Pay) (T U : BT Pay) (ka kb : Option Addr) (kc kd : Nat) (ia ib : Option Addr) (ic id : Nat) (w : World), fsize T < M → OIn w p T ka kc ia ic → OIn w q U kb kd ib id →
      Calls Tryz.prog 13 #[ov p ka kc ia (flen T) ic, ov q kb kd ib (flen U) id] w fun e w' => e = .returned (.bool (sameV p T q U)) ∧ Below w.heap.size w w')
    (p q : Pay) (T U : BT Pay) (ka kb : Option Addr) (kc kd : Nat) (ia ib : Option Addr) (ic id : Nat) (w : World) (hM : fsize T ≤ M) (hp : OIn w p T ka kc ia ic) (hq : OIn w q U kb kd ib id) :
    Calls Tryz.prog 13 #[ov p ka kc ia (flen T) ic, ov q kb kd ib (flen U) id] w fun e w' => e = .returned (.bool (sameV p T q U)) ∧ Below w.heap.size w w' := by
  have hl1 : (flen T : Int) ≤ 9223372036854775807 := by have h := hp.2.2.1; have h' := hp.2.2.2.1; omega
  have hl2 : (flen U : Int) ≤ 9223372036854775807 := by have h := hq.2.2.1; have h' := hq.2.2.2.1; omega
  have hl3 : (p.keys.length : Int) ≤ 9223372036854775807 := by have h := hp.2.1.2.1; have h' := hp.2.1.2.2; omega
  have hl4 : (q.keys.length : Int) ≤ 9223372036854775807 := by have h := hq.2.1.2.1; have h' := hq.2.1.2.2; omega
  by_cases hne : p.kind = q.kind ∧ p.flag = q.flag ∧ p.num = q.num ∧ p.text.toList = q.text.toList ∧ p.keys.length = q.keys.length ∧ flen T = flen U
  case neg => exact same_ne p q T U ka kb kc kd ia ib ic id w hne
  obtain ⟨e1, e2, e3, e4, e5, e6⟩ := hne
  rw [sameV_m ⟨e1, e2, e3, e4⟩]
  obtain ⟨R, hR⟩ : ∃ R, (keysEq p.keys q.keys && sameF T U) = R := ⟨_, rfl⟩
  rw [hR]
  have HR := hide hR
  have HP := hide hp
  have HQ := hide hq
  have IH := hide ih
  have HM := hide hM
  have f1 : (p.kind != q.kind) = false := by rw [e1]; simp
  have E2 := hide e2
  have f3 : (p.num != q.num) = false := by rw [e3]; simp
  have f4 : (p.text.toList == q.text.toList) = true := by rw [e4]; simp
  have f5 : ((p.keys.length : Int) != (q.keys.length : Int)) = false := by rw [e5]; simp
  have f6 : ((flen T : Int) != (flen U : Int)) = false := by rw [e6]; simp
  have E5 := hide e5
  have E6 := hide e6
  clear hR hp hq ih hM e1 e2 e3 e4 e5 e6
  go_enter Tryz.func13, Tryz.ntmps13
  go_wp2_with fail
  any_goals (first | exact absurd E2.out (by assumption) | skip)
  have HA := hide ((six_box w p ka kc ia (flen T) ic 25).below (by simp) ((Below.refl _ _).alloc (Nat.le_refl _) (.cells #[.int .i64 q.kind, .bool q.flag, .int .i64 q.num, .string q.text, .slice kb q.keys.length kd, .slice ib (flen U) id] 25)))
  have HC := six_box (w.alloc (.cells #[.int .i64 p.kind, .bool p.flag, .int .i64 p.num, .string p.text, .slice ka p.keys.length kc, .slice ia (flen T) ic] 25)) q kb kd ib (flen U) id 25
  rw [show (w.alloc (.cells #[.int .i64 p.kind, .bool p.flag, .int .i64 p.num, .string p.text, .slice ka p.keys.length kc, .slice ia (flen T) ic] 25)).heap.size = w.heap.size + 1 by simp] at HC
  have HC := hide HC
  have HB : Hid (∀ c d, Below w.heap.size w ((w.alloc c).alloc d)) := hide (fun c d => ((Below.refl _ _).alloc (Nat.le_refl _) c).alloc (by simp) d)
  go_loopw [5] (fun vi wr => ∃ i : Nat, vi = .int .i64 i ∧ Hid (i ≤ p.keys.length ∧ keysEq (p.keys.drop i) (q.keys.drop i) = keysEq p.keys q.keys ∧ Below w.heap.size w wr ∧ Six wr w.heap.size 0 p ka kc ia (flen T) ic ∧ Six wr (w.heap.size + 1) 0 q kb kd ib (flen U) id ∧ w.heap.size + 1 < wr.heap.size)) (fun vi _ => p.keys.length - (intOf vi).toNat)
  case atStart =>
    have g := HA.out
    have g2 := HC.out
    rw [E2.out] at g g2
    exact ⟨0, rfl, hide ⟨Nat.zero_le _, rfl, HB.out _ _, g, g2, by simp⟩⟩
  case round =>
    clear HA HC HB
    obtain ⟨i, rfl, HI⟩ := hrel
    obtain ⟨hi, hk, hbel, h6, h7, hsz⟩ := HI.out
    clear HI
    have HK := hide hk
    have HBL := hide hbel
    have H6 := hide h6
    have H7 := hide h7
    obtain ⟨s0, s1, s2, s3, s4, s5⟩ := h6
    obtain ⟨t0, t1, t2, t3, t4, t5⟩ := h7
    simp only [Nat.zero_add] at s1 s2 s3 s4 s5 t1 t2 t3 t4 t5
    have e5 := E5.out
    by_cases hlt : i < p.keys.length
    case pos =>
      obtain ⟨b, off, rfl, hb, hc⟩ := HP.out.2.1.1.get5 hlt
      obtain ⟨b', off', rfl, hb', hc'⟩ := HQ.out.2.1.1.get5 (show i < q.keys.length by omega)
      have c1 := (hbel.cell (p := ⟨b, off + i, none⟩) hb).trans hc
      have c2 := (hbel.cell (p := ⟨b', off' + i, none⟩) hb').trans hc'
      have st := keysEq_step hlt (show i < q.keys.length by omega)
      have hlt1 : (i : Int) < (p.keys.length : Int) := by omega
      have hlt2 : (i : Int) < (q.keys.length : Int) := by omega
      have hi0 : (0 : Int) ≤ (i : Int) := by omega
      generalize p.keys.getD i ByteArray.empty = x at c1 st
      generalize q.keys.getD i ByteArray.empty = y at c2 st
      have HLT := hide hlt
      rw [hk] at st
      clear hc hc' hbel hk hlt hi e5
      cases hq : (x.toList == y.toList)
      · obtain rfl : R = false := by rw [← HR.out, st]; unfold eqS; rw [hq]; simp
        clear st
        go_wp2_with fail
        go_quiet (fail)
        go_wp2_with fail
        go_ret
        exact ⟨rfl, below_drewN HBL.out _⟩
      · have ST := hide (show keysEq (p.keys.drop (i + 1)) (q.keys.drop (i + 1)) = keysEq p.keys q.keys by rw [st]; unfold eqS; rw [hq, Bool.true_and])
        clear st
        go_wp2_with fail
        go_quiet (fail)
        go_wp2_with fail
        go_roundw
        case rel => exact ⟨i + 1, by go_num, hide ⟨HLT.out, ST.out, below_drewN HBL.out _, H6.out, H7.out, hsz⟩⟩
        case measure => have := HLT.out; simp [intOf]; omega
    case neg =>
      have hlt' : (p.keys.length : Int) ≤ (i : Int) := by omega
      have HF : Hid (sameF T U = R) := hide (by
        have : keysEq p.keys q.keys = true := by rw [← hk, List.drop_of_length_le (by omega), List.drop_of_length_le (by omega)]; rfl
        rw [← HR.out, this, Bool.true_and])
      clear hk hbel hi e5 hlt'
      go_wp2_with fail
      clear s0 s1 s2 s3 s4 s5 t0 t1 t2 t3 t4 t5
      obtain ⟨b, off, hia, hrows⟩ := OIn.at_ HP.out
      obtain ⟨b', off', hib, hrows'⟩ := OIn.at_ HQ.out
      have HRA := hide hrows
      have HRB := hide hrows'
      have HIA := hide hia
      have HIB := hide hib
      clear hrows hrows' hia hib
      go_loopw [6] (fun vk wt => ∃ (k : Nat) (A B : BT Pay), vk = .int .i64 k ∧ Hid (flen A + k = flen T ∧ flen B + k = flen U ∧ fsize A ≤ fsize T ∧ Rows w A b (off + k * 6) ∧ Rows w B b' (off' + k * 6) ∧ sameF A B = R ∧ Below w.heap.size w wt ∧ Six wt w.heap.size 0 p ka kc ia (flen T) ic ∧ Six wt (w.heap.size + 1) 0 q kb kd ib (flen U) id ∧ w.heap.size + 1 < wt.heap.size)) (fun vk _ => flen T - (intOf vk).toNat)
      case atStart => exact ⟨0, T, U, rfl, hide ⟨by omega, by omega, Nat.le_refl _, by simpa using HRA.out, by simpa using HRB.out, HF.out, HBL.out, H6.out, H7.out, hsz⟩⟩
      case round =>
        clear HBL H6 H7 HRA HRB HF hsz
        obtain ⟨k, A, B, rfl, HV⟩ := hrel
        obtain ⟨hk1, hk2, hu, hra, hrb, hs, hbel, h6, h7, hsz⟩ := HV.out
        clear HV
        have HBL := hide hbel
        have H6 := hide h6
        have H7 := hide h7
        obtain ⟨s0, s1, s2, s3, s4, s5⟩ := h6
        obtain ⟨t0, t1, t2, t3, t4, t5⟩ := h7
        simp only [Nat.zero_add] at s1 s2 s3 s4 s5 t1 t2 t3 t4 t5
        have e6 := E6.out
        cases A with
        | nil =>
          have hB : B = .nil := flen_zero (by simp [flen] at hk1; omega)
          subst hB
          obtain rfl : true = R := hs
          have hk' : (flen T : Int) ≤ (k : Int) := by simp [flen] at hk1; omega
          clear hk1 hk2 hra hrb hbel hu e6
          go_wp2_with fail
          go_ret
          exact ⟨rfl, HBL.out⟩
        | node b0 o0 p1 T1 N1 =>
          cases B with
          | nil => simp [flen] at hk1 hk2; omega
          | node b1 o1 q1 U1 N2 =>
            obtain ⟨⟨ka', kc', ia', ic', g6, gin⟩, grest⟩ := rows_node.1 hra
            obtain ⟨⟨kb', kd', ib', id', g7, gin'⟩, grest'⟩ := rows_node.1 hrb
            obtain rfl | ⟨rfl, hbz⟩ := HIA.out
            · simp [flen] at hk1
            obtain rfl | ⟨rfl, hbz'⟩ := HIB.out
            · simp [flen] at hk2
            have hlt : (k : Int) < (flen T : Int) := by simp [flen] at hk1; omega
            have hlt2 : (k : Int) < (flen U : Int) := by simp [flen] at hk2; omega
            have hk0 : (0 : Int) ≤ (k : Int) := by omega
            have hst : fsize T1 < M := by have := HM.out; simp [fsize] at hu; omega
            have CI := fun (wt' : World) (h : Below w.heap.size w wt') => IH.out p1 q1 T1 U1 ka' kb' kc' kd' ia' ib' ic' id' wt' hst (gin.below h) (gin'.below h)
            obtain ⟨c0, c1, c2, c3, c4, c5⟩ := g6.below hbz hbel
            obtain ⟨d0, d1, d2, d3, d4, d5⟩ := g7.below hbz' hbel
            have hs' : (sameV p1 T1 q1 U1 && sameF N1 N2) = R := hs
            generalize sameV p1 T1 q1 U1 = r at CI hs'
            have CI := hide CI
            have HS := hide hs'
            have HK := hide (show flen N1 + (k + 1) = flen T ∧ flen N2 + (k + 1) = flen U ∧ fsize N1 ≤ fsize T by simp [flen, fsize] at hk1 hk2 hu; omega)
            have HRA := hide grest
            have HRB := hide grest'
            clear hk1 hk2 hu hra hrb hs hs' hbel g6 g7 gin gin' grest grest' e6
            have KS : Hid (∀ x, Below wr.heap.size wr x → x.cell? ⟨w.heap.size, 5, none⟩ = some (.slice (some ⟨b, off, none⟩) (flen T) ic) ∧ x.cell? ⟨w.heap.size + 1, 5, none⟩ = some (.slice (some ⟨b', off', none⟩) (flen U) id) ∧ x.cell? ⟨b, off + k * 6, none⟩ = some (.int .i64 p1.kind) ∧ x.cell? ⟨b, off + k * 6 + 1, none⟩ = some (.bool p1.flag) ∧ x.cell? ⟨b, off + k * 6 + 2, none⟩ = some (.int .i64 p1.num) ∧ x.cell? ⟨b, off + k * 6 + 3, none⟩ = some (.string p1.text) ∧ x.cell? ⟨b, off + k * 6 + 4, none⟩ = some (.slice ka' p1.keys.length kc') ∧ x.cell? ⟨b, off + k * 6 + 5, none⟩ = some (.slice ia' (flen T1) ic') ∧ x.cell? ⟨b', off' + k * 6, none⟩ = some (.int .i64 q1.kind) ∧ x.cell? ⟨b', off' + k * 6 + 1, none⟩ = some (.bool q1.flag) ∧ x.cell? ⟨b', off' + k * 6 + 2, none⟩ = some (.int .i64 q1.num) ∧ x.cell? ⟨b', off' + k * 6 + 3, none⟩ = some (.string q1.text) ∧ x.cell? ⟨b', off' + k * 6 + 4, none⟩ = some (.slice kb' q1.keys.length kd') ∧ x.cell? ⟨b', off' + k * 6 + 5, none⟩ = some (.slice ib' (flen U1) id')) := hide (fun x hx => by
              have z0 : w.heap.size < wr.heap.size := by omega
              have z1 : b < wr.heap.size := Nat.lt_of_lt_of_le hbz HBL.out.size
              have z2 : b' < wr.heap.size := Nat.lt_of_lt_of_le hbz' HBL.out.size
              exact ⟨(hx.cell (p := ⟨w.heap.size, 5, none⟩) z0).trans s5, (hx.cell (p := ⟨w.heap.size + 1, 5, none⟩) hsz).trans t5,
                (hx.cell (p := ⟨b, off + k * 6, none⟩) z1).trans c0, (hx.cell (p := ⟨b, off + k * 6 + 1, none⟩) z1).trans c1, (hx.cell (p := ⟨b, off + k * 6 + 2, none⟩) z1).trans c2, (hx.cell (p := ⟨b, off + k * 6 + 3, none⟩) z1).trans c3, (hx.cell (p := ⟨b, off + k * 6 + 4, none⟩) z1).trans c4, (hx.cell (p := ⟨b, off + k * 6 + 5, none⟩) z1).trans c5,
                (hx.cell (p := ⟨b', off' + k * 6, none⟩) z2).trans d0, (hx.cell (p := ⟨b', off' + k * 6 + 1, none⟩) z2).trans d1, (hx.cell (p := ⟨b', off' + k * 6 + 2, none⟩) z2).trans d2, (hx.cell (p := ⟨b', off' + k * 6 + 3, none⟩) z2).trans d3, (hx.cell (p := ⟨b', off' + k * 6 + 4, none⟩) z2).trans d4, (hx.cell (p := ⟨b', off' + k * 6 + 5, none⟩) z2).trans d5⟩)
            have HX : Hid (Below wr.heap.size wr wr) := hide (Below.refl _ _)
            cases r
            · obtain rfl : false = R := HS.out
              go_wp2_with fail
              go_region_held3 (fun x => x.cell? ⟨w.heap.size, 5, none⟩ = some (.slice (some ⟨b, off, none⟩) (flen T) ic) ∧ x.cell? ⟨w.heap.size + 1, 5, none⟩ = some (.slice (some ⟨b', off', none⟩) (flen U) id) ∧ x.cell? ⟨b, off + k * 6, none⟩ = some (.int .i64 p1.kind) ∧ x.cell? ⟨b, off + k * 6 + 1, none⟩ = some (.bool p1.flag) ∧ x.cell? ⟨b, off + k * 6 + 2, none⟩ = some (.int .i64 p1.num) ∧ x.cell? ⟨b, off + k * 6 + 3, none⟩ = some (.string p1.text) ∧ x.cell? ⟨b, off + k * 6 + 4, none⟩ = some (.slice ka' p1.keys.length kc') ∧ x.cell? ⟨b, off + k * 6 + 5, none⟩ = some (.slice ia' (flen T1) ic') ∧ x.cell? ⟨b', off' + k * 6, none⟩ = some (.int .i64 q1.kind) ∧ x.cell? ⟨b', off' + k * 6 + 1, none⟩ = some (.bool q1.flag) ∧ x.cell? ⟨b', off' + k * 6 + 2, none⟩ = some (.int .i64 q1.num) ∧ x.cell? ⟨b', off' + k * 6 + 3, none⟩ = some (.string q1.text) ∧ x.cell? ⟨b', off' + k * 6 + 4, none⟩ = some (.slice kb' q1.keys.length kd') ∧ x.cell? ⟨b', off' + k * 6 + 5, none⟩ = some (.slice ib' (flen U1) id')) (first | exact KS.out _ (below_d5 HX.out (Below.refl _ _) rfl rfl rfl rfl) | go_keep) ((first | (go_at_call 13; refine (CI.out _ ?_).mono ?_; exact below_d5 HBL.out (Below.refl _ _) rfl rfl rfl rfl; rintro e wy ⟨rfl, hy⟩; replace HX := hide (below_d5 HX.out hy rfl rfl rfl rfl); clear hy)))
              go_wp2_with fail
              go_ret
              exact ⟨rfl, below_t5 HBL.out HX.out⟩
            · go_wp2_with fail
              rename_i k0
              have HK0 := hide k0
              clear k0
              go_region_held3 (fun x => x.cell? ⟨w.heap.size, 5, none⟩ = some (.slice (some ⟨b, off, none⟩) (flen T) ic) ∧ x.cell? ⟨w.heap.size + 1, 5, none⟩ = some (.slice (some ⟨b', off', none⟩) (flen U) id) ∧ x.cell? ⟨b, off + k * 6, none⟩ = some (.int .i64 p1.kind) ∧ x.cell? ⟨b, off + k * 6 + 1, none⟩ = some (.bool p1.flag) ∧ x.cell? ⟨b, off + k * 6 + 2, none⟩ = some (.int .i64 p1.num) ∧ x.cell? ⟨b, off + k * 6 + 3, none⟩ = some (.string p1.text) ∧ x.cell? ⟨b, off + k * 6 + 4, none⟩ = some (.slice ka' p1.keys.length kc') ∧ x.cell? ⟨b, off + k * 6 + 5, none⟩ = some (.slice ia' (flen T1) ic') ∧ x.cell? ⟨b', off' + k * 6, none⟩ = some (.int .i64 q1.kind) ∧ x.cell? ⟨b', off' + k * 6 + 1, none⟩ = some (.bool q1.flag) ∧ x.cell? ⟨b', off' + k * 6 + 2, none⟩ = some (.int .i64 q1.num) ∧ x.cell? ⟨b', off' + k * 6 + 3, none⟩ = some (.string q1.text) ∧ x.cell? ⟨b', off' + k * 6 + 4, none⟩ = some (.slice kb' q1.keys.length kd') ∧ x.cell? ⟨b', off' + k * 6 + 5, none⟩ = some (.slice ib' (flen U1) id')) (first | exact KS.out _ (below_d5 HX.out (Below.refl _ _) rfl rfl rfl rfl) | go_keep) ((first | (go_at_call 13; refine (CI.out _ ?_).mono ?_; exact below_d5 HBL.out (Below.refl _ _) rfl rfl rfl rfl; rintro e wy ⟨rfl, hy⟩; replace HX := hide (below_d5 HX.out hy rfl rfl rfl rfl); clear hy)))
              all_goals
                refine HK0.out _ _ ?_
                go_wp2_with fail
                go_roundw
                case rel => exact ⟨k + 1, N1, N2, by go_num, hide ⟨HK.out.1, HK.out.2.1, HK.out.2.2, by have := HRA.out; rw [show off + (k + 1) * 6 = off + k * 6 + 6 by omega]; exact this, by have := HRB.out; rw [show off' + (k + 1) * 6 = off' + k * 6 + 6 by omega]; exact this, by have := HS.out; rwa [Bool.true_and] at this, below_t5 HBL.out HX.out, H6.out.below (by omega) HX.out, H7.out.below hsz HX.out, Nat.lt_of_lt_of_le hsz HX.out.size⟩⟩
                case measure => have := HK.out; simp [intOf]; omega

theorem same_core : ∀ (M : Nat) (p q : Pay) (T U : BT Pay) (ka kb : Option Addr) (kc kd : Nat) (ia ib : Option Addr) (ic id : Nat) (w : World), fsize T < M → OIn w p T ka kc ia ic → OIn w q U kb kd ib id →
      Calls Tryz.prog 13 #[ov p ka kc ia (flen T) ic, ov q kb kd ib (flen U) id] w fun e w' => e = .returned (.bool (sameV p T q U)) ∧ Below w.heap.size w w'
  | 0 => fun _ _ _ _ _ _ _ _ _ _ _ _ _ h => absurd h (Nat.not_lt_zero _)
  | M + 1 => fun p q T U ka kb kc kd ia ib ic id w hM hp hq => same_step M (same_core M) p q T U ka kb kc kd ia ib ic id w (by omega) hp hq
end Go.Proofs.YtalmcdbdibpgkaaGreatDoor
/-
  What the landed Same answers, of any two objects.
-/
namespace Go.Proofs.YtalmcdbdibpgkaaGreatDoor
open Go.RowKit Go.Deep

theorem eqS_iff (a b : ByteArray) : eqS a b = decide (a = b) := by
  unfold eqS
  rw [Bool.eq_iff_iff, Lib.bytes_beq_iff, decide_eq_true_iff]
theorem keysEq_eq : ∀ (a b : List ByteArray), keysEq a b = decide (a = b)
  | [], [] => rfl
  | [], _ :: _ => by simp [keysEq]
  | _ :: _, [] => by simp [keysEq]
  | a :: l, b :: m => by rw [keysEq, keysEq_eq l m, eqS_iff, Bool.eq_iff_iff]; simp
theorem equal_any (ka kb : Option Addr) (xs ys : List ByteArray) (kc kd : Nat) (w : World) (hx : Strs w ka xs) (hy : Strs w kb ys) (h1 : xs.length ≤ 9223372036854775807) (h2 : ys.length ≤ 9223372036854775807) :
    Calls Tryz.prog 98 #[.slice ka xs.length kc, .slice kb ys.length kd] w fun e w' => e = .returned (.bool (keysEq xs ys)) ∧ Below w.heap.size w w' := by
  by_cases hn : xs.length = ys.length
  · rcases hx with rfl | ⟨b, off, rfl, hb, hc⟩
    · refine (Any.slices_Equal_string_empty lays193 ka kb kc ys.length kd w h2).mono ?_
      rintro e w' ⟨rfl, rfl⟩
      refine ⟨?_, Below.refl _ _⟩
      have hys : ys = [] := List.eq_nil_of_length_eq_zero (by simpa using hn.symm)
      subst hys
      rfl
    · rcases hy with rfl | ⟨b', off', rfl, hb', hc'⟩
      · have hxs : xs = [] := List.eq_nil_of_length_eq_zero (by simpa using hn)
        subst hxs
        refine (Any.slices_Equal_string_empty lays193 _ kb kc 0 kd w (by omega)).mono ?_
        rintro e w' ⟨rfl, rfl⟩
        exact ⟨rfl, Below.refl _ _⟩
      · refine (Any.slices_Equal_string lays193 b off xs.length kc b' off' ys.length kd xs ys w (Nat.le_refl _) (Nat.le_refl _) h1 h2 hc hc').mono ?_
        rintro e w' ⟨rfl, q, rfl⟩
        rw [List.take_length, List.take_length, keysEq_eq]
        exact ⟨rfl, below_drewN' _ _⟩
  · refine (Any.slices_Equal_string_lens lays193 ka kb xs.length kc ys.length kd w hn).mono ?_
    rintro e w' ⟨rfl, rfl⟩
    have : keysEq xs ys = false := by
      rw [Bool.eq_false_iff]
      exact fun h => hn (keysEq_len h)
    rw [this]
    exact ⟨rfl, Below.refl _ _⟩
set_option maxRecDepth 8000 in
set_option maxHeartbeats 4000000 in
theorem eqf_step (M : Nat)
    (ih : ∀ (p q : Pay) (T U : BT Pay) (ka kb : Option Addr) (kc kd : Nat) (ia ib : Option Addr) (ic id : Nat) (w : World), fsize T < M → OIn w p T ka kc ia ic → OIn w q U kb kd ib id →
      Calls Tryz.prog 81 #[ov p ka kc ia (flen T) ic, ov q kb kd ib (flen U) id] w fun e w' => e = .returned (.bool (sameV p T q U)) ∧ Below w.heap.size w w')
    (p q : Pay) (T U : BT Pay) (ka kb : Option Addr) (kc kd : Nat) (ia ib : Option Addr) (ic id : Nat) (w : World) (hM : fsize T ≤ M) (hp : OIn w p T ka kc ia ic) (hq : OIn w q U kb kd ib id) :
    Calls Tryz.prog 99 #[.slice ia (flen T) ic, .slice ib (flen U) id, .func (.func 81) #[] #[]] w fun e w' => e = .returned (.bool (sameF T U)) ∧ Below w.heap.size w w' := by
  have hl1 : (flen T : Int) ≤ 9223372036854775807 := by have h := hp.2.2.1; have h' := hp.2.2.2.1; omega
  have hl2 : (flen U : Int) ≤ 9223372036854775807 := by have h := hq.2.2.1; have h' := hq.2.2.2.1; omega
  obtain ⟨R, hR⟩ : ∃ R, sameF T U = R := ⟨_, rfl⟩
  rw [hR]
  have HR := hide hR
  by_cases hne : flen T = flen U
  case neg =>
    have f6 : ((flen T : Int) != (flen U : Int)) = true := by rw [bne_iff_ne]; omega
    obtain rfl : R = false := by rw [← hR, Bool.eq_false_iff]; exact fun h => hne (sameF_len h)
    clear hne hp hq ih hR HR
    go_enter Tryz.func99, Tryz.ntmps99
    go_wp2_with fail
    go_ret
    exact ⟨rfl, Below.refl _ _⟩
  have f6 : ((flen T : Int) != (flen U : Int)) = false := by rw [hne]; simp
  have E6 := hide hne
  obtain ⟨b, off, hia, hrows⟩ := OIn.at_ hp
  obtain ⟨b', off', hib, hrows'⟩ := OIn.at_ hq
  have HRA := hide hrows
  have HRB := hide hrows'
  have HIA := hide hia
  have HIB := hide hib
  have IH := hide ih
  have HM := hide hM
  clear hrows hrows' hia hib hp hq ih hM hne hR
  go_enter Tryz.func99, Tryz.ntmps99
  go_wp2_with fail
  go_loopw [17] (fun vk wt => ∃ (k : Nat) (A B : BT Pay), vk = .int .i64 k ∧ Hid (flen A + k = flen T ∧ flen B + k = flen U ∧ fsize A ≤ fsize T ∧ Rows w A b (off + k * 6) ∧ Rows w B b' (off' + k * 6) ∧ sameF A B = R ∧ Below w.heap.size w wt)) (fun vk _ => flen T - (intOf vk).toNat)
  case atStart => exact ⟨0, T, U, rfl, hide ⟨by omega, by omega, Nat.le_refl _, by simpa using HRA.out, by simpa using HRB.out, HR.out, Below.refl _ _⟩⟩
  case round =>
    clear HRA HRB HR
    obtain ⟨k, A, B, rfl, HV⟩ := hrel
    obtain ⟨hk1, hk2, hu, hra, hrb, hs, hbel⟩ := HV.out
    clear HV
    have HBL := hide hbel
    have e6 := E6.out
    cases A with
    | nil =>
      have hB : B = .nil := flen_zero (by simp [flen] at hk1; omega)
      subst hB
      obtain rfl : true = R := hs
      have hk' : ¬ k < flen T := by simp [flen] at hk1; omega
      clear hk1 hk2 hra hrb hbel hu e6
      go_wp2_with fail
      go_ret
      exact ⟨rfl, HBL.out⟩
    | node b0 o0 p1 T1 N1 =>
      cases B with
      | nil => simp [flen] at hk1 hk2; omega
      | node b1 o1 q1 U1 N2 =>
        obtain ⟨⟨ka', kc', ia', ic', g6, gin⟩, grest⟩ := rows_node.1 hra
        obtain ⟨⟨kb', kd', ib', id', g7, gin'⟩, grest'⟩ := rows_node.1 hrb
        obtain rfl | ⟨rfl, hbz⟩ := HIA.out
        · simp [flen] at hk1
        obtain rfl | ⟨rfl, hbz'⟩ := HIB.out
        · simp [flen] at hk2
        have hlt : k < flen T := by simp [flen] at hk1; omega
        have hlt2 : k < flen U := by simp [flen] at hk2; omega
        have hk0 : (0 : Int) ≤ (k : Int) := by omega
        have hst : fsize T1 < M := by have := HM.out; simp [fsize] at hu; omega
        have CI := fun (wt' : World) (h : Below w.heap.size w wt') => IH.out p1 q1 T1 U1 ka' kb' kc' kd' ia' ib' ic' id' wt' hst (gin.below h) (gin'.below h)
        obtain ⟨c0, c1, c2, c3, c4, c5⟩ := g6.below hbz hbel
        obtain ⟨d0, d1, d2, d3, d4, d5⟩ := g7.below hbz' hbel
        have hs' : (sameV p1 T1 q1 U1 && sameF N1 N2) = R := hs
        generalize sameV p1 T1 q1 U1 = r at CI hs'
        have CI := hide CI
        have HS := hide hs'
        have HK := hide (show flen N1 + (k + 1) = flen T ∧ flen N2 + (k + 1) = flen U ∧ fsize N1 ≤ fsize T by simp [flen, fsize] at hk1 hk2 hu; omega)
        have HRA := hide grest
        have HRB := hide grest'
        have hb1 : b < wr.heap.size := Nat.lt_of_lt_of_le hbz hbel.size
        have hb2 : b' < wr.heap.size := Nat.lt_of_lt_of_le hbz' hbel.size
        clear hk1 hk2 hu hra hrb hs hs' hbel g6 g7 gin gin' grest grest' e6
        cases r
        · obtain rfl : false = R := HS.out
          go_wp2_with (go_at_call 81; refine (CI.out _ ?_).mono ?_; exact (HBL.out.alloc HBL.out.size _).alloc (by have := HBL.out.size; simp; omega) _; rintro e wy ⟨rfl, hy⟩)
          go_ret
          exact ⟨rfl, below_t5 ((HBL.out.alloc HBL.out.size _).alloc (by have := HBL.out.size; simp; omega) _) hy⟩
        · go_wp2_with (go_at_call 81; refine (CI.out _ ?_).mono ?_; exact (HBL.out.alloc HBL.out.size _).alloc (by have := HBL.out.size; simp; omega) _; rintro e wy ⟨rfl, hy⟩)
          go_roundw
          case rel => exact ⟨k + 1, N1, N2, by go_num, hide ⟨HK.out.1, HK.out.2.1, HK.out.2.2, by have := HRA.out; rw [show off + (k + 1) * 6 = off + k * 6 + 6 by omega]; exact this, by have := HRB.out; rw [show off' + (k + 1) * 6 = off' + k * 6 + 6 by omega]; exact this, by have := HS.out; rwa [Bool.true_and] at this, below_t5 ((HBL.out.alloc HBL.out.size _).alloc (by have := HBL.out.size; simp; omega) _) hy⟩⟩
          case measure => have := HK.out; simp [intOf]; omega
set_option maxRecDepth 8000 in
set_option maxHeartbeats 4000000 in
theorem osame_step (M : Nat)
    (ih : ∀ (p q : Pay) (T U : BT Pay) (ka kb : Option Addr) (kc kd : Nat) (ia ib : Option Addr) (ic id : Nat) (w : World), fsize T < M → OIn w p T ka kc ia ic → OIn w q U kb kd ib id →
      Calls Tryz.prog 81 #[ov p ka kc ia (flen T) ic, ov q kb kd ib (flen U) id] w fun e w' => e = .returned (.bool (sameV p T q U)) ∧ Below w.heap.size w w')
    (p q : Pay) (T U : BT Pay) (ka kb : Option Addr) (kc kd : Nat) (ia ib : Option Addr) (ic id : Nat) (w : World) (hM : fsize T ≤ M) (hp : OIn w p T ka kc ia ic) (hq : OIn w q U kb kd ib id) :
    Calls Tryz.prog 81 #[ov p ka kc ia (flen T) ic, ov q kb kd ib (flen U) id] w fun e w' => e = .returned (.bool (sameV p T q U)) ∧ Below w.heap.size w w' := by
  have CF := hide (fun w' h => eqf_step M ih p q T U ka kb kc kd ia ib ic id w' hM (OIn.below (w := w) (w' := w') h hp) (OIn.below (w := w) (w' := w') h hq))
  have CE := hide (fun w' h => equal_any ka kb p.keys q.keys kc kd w' (Strs.below (w := w) (w' := w') hp.2.1.1 h) (Strs.below (w := w) (w' := w') hq.2.1.1 h) (by have h := hp.2.1.2.1; have h' := hp.2.1.2.2; omega) (by have h := hq.2.1.2.1; have h' := hq.2.1.2.2; omega))
  have HB : Hid (∀ c d, Below w.heap.size w ((w.alloc c).alloc d)) := hide (fun c d => ((Below.refl _ _).alloc (Nat.le_refl _) c).alloc (by simp) d)
  have HZ : Hid (∀ c d, w.heap.size < ((w.alloc c).alloc d).heap.size ∧ w.heap.size + 1 < ((w.alloc c).alloc d).heap.size) := hide (fun c d => by constructor <;> simp <;> omega)
  have HA := hide ((six_box w p ka kc ia (flen T) ic 25).below (by simp) ((Below.refl _ _).alloc (Nat.le_refl _) (.cells #[.int .i64 q.kind, .bool q.flag, .int .i64 q.num, .string q.text, .slice kb q.keys.length kd, .slice ib (flen U) id] 25)))
  have HC := six_box (w.alloc (.cells #[.int .i64 p.kind, .bool p.flag, .int .i64 p.num, .string p.text, .slice ka p.keys.length kc, .slice ia (flen T) ic] 25)) q kb kd ib (flen U) id 25
  rw [show (w.alloc (.cells #[.int .i64 p.kind, .bool p.flag, .int .i64 p.num, .string p.text, .slice ka p.keys.length kc, .slice ia (flen T) ic] 25)).heap.size = w.heap.size + 1 by simp] at HC
  have HC := hide HC
  unfold sameV payEq eqS
  generalize sameF T U = F at CF
  generalize keysEq p.keys q.keys = E at CE
  clear hp hq ih hM
  cases h1 : (p.kind == q.kind)
  · go_enter Tryz.func81, Tryz.ntmps81
    go_wp2_with fail
    go_ret
    exact ⟨by simp, HB.out _ _⟩
  cases h2 : (p.flag == q.flag)
  · go_enter Tryz.func81, Tryz.ntmps81
    go_wp2_with fail
    go_ret
    exact ⟨by simp, HB.out _ _⟩
  cases h3 : (p.num == q.num)
  · go_enter Tryz.func81, Tryz.ntmps81
    go_wp2_with fail
    go_ret
    exact ⟨by simp, HB.out _ _⟩
  cases h4 : (p.text.toList == q.text.toList)
  · go_enter Tryz.func81, Tryz.ntmps81
    go_wp2_with fail
    go_ret
    exact ⟨by simp, HB.out _ _⟩
  cases E
  · go_enter Tryz.func81, Tryz.ntmps81
    go_wp2_with (go_at_call 98; refine (CE.out _ (HB.out _ _)).mono ?_; rintro e wx ⟨rfl, hx⟩; have HX := hide (below_t5 (HB.out _ _) hx); clear hx)
    go_ret
    exact ⟨by simp, HX.out⟩
  · go_enter Tryz.func81, Tryz.ntmps81
    go_wp2_with (first | (go_at_call 98; refine (CE.out _ (HB.out _ _)).mono ?_; rintro e wx ⟨rfl, hx⟩; have HX := hide (below_t5 (HB.out _ _) hx); obtain ⟨s0, s1, s2, s3, s4, s5⟩ := HA.out.below (HZ.out _ _).1 hx; obtain ⟨t0, t1, t2, t3, t4, t5⟩ := HC.out.below (HZ.out _ _).2 hx; (try simp only [Nat.zero_add] at s5 t5); clear hx) | (go_at_call 99; refine (CF.out _ HX.out).mono ?_; rintro e wy ⟨rfl, hy⟩))
    go_ret
    exact ⟨by simp, below_t5 HX.out hy⟩
theorem osame_core : ∀ (M : Nat) (p q : Pay) (T U : BT Pay) (ka kb : Option Addr) (kc kd : Nat) (ia ib : Option Addr) (ic id : Nat) (w : World), fsize T < M → OIn w p T ka kc ia ic → OIn w q U kb kd ib id →
      Calls Tryz.prog 81 #[ov p ka kc ia (flen T) ic, ov q kb kd ib (flen U) id] w fun e w' => e = .returned (.bool (sameV p T q U)) ∧ Below w.heap.size w w'
  | 0 => fun _ _ _ _ _ _ _ _ _ _ _ _ _ h => absurd h (Nat.not_lt_zero _)
  | M + 1 => fun p q T U ka kb kc kd ia ib ic id w hM hp hq => osame_step M (osame_core M) p q T U ka kb kc kd ia ib ic id w (by omega) hp hq
theorem osame_any (p q : Pay) (T U : BT Pay) (ka kb : Option Addr) (kc kd : Nat) (ia ib : Option Addr) (ic id : Nat) (w : World) (hp : OIn w p T ka kc ia ic) (hq : OIn w q U kb kd ib id) :
    Calls Tryz.prog 81 #[ov p ka kc ia (flen T) ic, ov q kb kd ib (flen U) id] w fun e w' => e = .returned (.bool (sameV p T q U)) ∧ Below w.heap.size w w' :=
  osame_core _ p q T U ka kb kc kd ia ib ic id w (Nat.lt_succ_self _) hp hq
end Go.Proofs.YtalmcdbdibpgkaaGreatDoor
/-
  What the landed areKeys answers: the set of the keys that were seen.
-/
namespace Go.Proofs.YtalmcdbdibpgkaaGreatDoor
open Go.RowKit Go.Deep Go.Maps

theorem law9 : Keyed Tryz.prog 9 := string_keyed Tryz.underlying9
theorem zero95 (w : World) : (zeroValue 99).run Tryz.prog w = .ok (.agg #[]) w := by kernel_rfl
def Sk (l : List ByteArray) : DataW Unit := setOf (.agg []) (l.map fun s => Lit.string s.data.toList)
theorem Sk_nil : Sk [] = .map [] := rfl
theorem Sk_snoc (l : List ByteArray) (s : ByteArray) : Sk (l ++ [s]) = (Sk l).put (.string s.data.toList) (.agg []) := by
  unfold Sk
  rw [List.map_append, List.map_cons, List.map_nil, setOf_snoc]
theorem has_Sk (l : List ByteArray) (s : ByteArray) : Maps.has (Sk l) (.string s.data.toList) = decide (s.data.toList ∈ l.map fun t => t.data.toList) := by
  unfold Sk
  rw [has_setOf _ _ _ (fun x hx => by obtain ⟨t, _, rfl⟩ := List.mem_map.1 hx; trivial)]
  rw [List.any_map, Bool.eq_iff_iff, List.any_eq_true, decide_eq_true_iff, List.mem_map]
  constructor
  · rintro ⟨t, h1, h2⟩
    have := WideAt.sameKey_eq (a := .string t.data.toList) (b := .string s.data.toList) h2
    simp at this
    exact ⟨t, h1, by rw [this]⟩
  · rintro ⟨t, h1, h2⟩
    exact ⟨t, h1, by simp [Lit.sameKey, h2]⟩
theorem make_any (n : Int) (w : World) : (Instr.makeMap 98 (some (.int .i64 n))).run Tryz.prog w = .ok (.map (some w.heap.size)) (w.alloc (.map #[] 0)) := by
  simp [Instr.makeMap, run_underlying Tryz.underlying98, asInt, asIntOf]
theorem keysB_step (l : List ByteArray) (i : Nat) (h : i < l.length) (seen : List (List UInt8)) :
    keysB seen (l.drop i) = (nameB (l.getD i ByteArray.empty).data.toList && decide ((l.getD i ByteArray.empty).data.toList ∉ seen) && keysB (seen ++ [(l.getD i ByteArray.empty).data.toList]) (l.drop (i + 1))) := by
  rw [List.drop_eq_getElem_cons h, keysB, List.getD_eq_getElem?_getD, List.getElem?_eq_getElem h]
  rfl
theorem take_snoc (l : List ByteArray) (i : Nat) (h : i < l.length) : l.take (i + 1) = l.take i ++ [l.getD i ByteArray.empty] := by
  rw [List.take_add_one, List.getElem?_eq_getElem h, List.getD_eq_getElem?_getD, List.getElem?_eq_getElem h]
  rfl
set_option maxRecDepth 8000 in
set_option maxHeartbeats 4000000 in
theorem areKeys_any (ka : Option Addr) (ss : List ByteArray) (kc : Nat) (w : World) (hS : Strs w ka ss) (hn : ss.length ≤ 8796093022208) (hsz : ∀ s ∈ ss, s.size ≤ 9223372036854775807) :
    Calls Tryz.prog 80 #[.slice ka ss.length kc] w fun e w' => e = .returned (.bool (keysB [] ss)) ∧ Below w.heap.size w w' := by
  have hmm := make_any
  obtain ⟨R, hR⟩ : ∃ R, keysB [] ss = R := ⟨_, rfl⟩
  rw [hR]
  have HR := hide hR
  have HS := hide hS
  have HZ := hide hsz
  have hn' : (ss.length : Int) ≤ 9223372036854775807 := by omega
  have HN := hide hn
  clear hR hS hsz hn
  go_enter Tryz.func80, Tryz.ntmps80
  go_wp2_with fail
  go_loopw [13] (fun vi wr => ∃ i : Nat, vi = .int .i64 i ∧ Hid (i ≤ ss.length ∧ keysB ((ss.take i).map fun t => t.data.toList) (ss.drop i) = R ∧ wr.ownsMap Tryz.prog 9 unitElem w.heap.size i (Sk (ss.take i)) ∧ Below w.heap.size w wr ∧ w.heap.size + 1 ≤ wr.heap.size)) (fun vi _ => ss.length - (intOf vi).toNat)
  case atStart => exact ⟨0, rfl, hide ⟨Nat.zero_le _, by simpa using HR.out, World.ownsMap_made _ _ _ _, (Below.refl _ _).alloc (Nat.le_refl _) _, by simp⟩⟩
  case round =>
    clear HR
    obtain ⟨i, rfl, HV⟩ := hrel
    obtain ⟨hi, hk, hown, hbel, hws⟩ := HV.out
    clear HV
    have HB := hide hbel
    have HO := hide hown
    have hi0 : (0 : Int) ≤ (i : Int) := by omega
    by_cases hlt : i < ss.length
    case neg =>
      obtain rfl : R = true := by rw [← hk, List.drop_of_length_le (by omega)]; rfl
      clear hk hown hbel hi
      go_wp2_with fail
      go_ret
      exact ⟨rfl, HB.out⟩
    case pos =>
      obtain ⟨b, off, rfl, hb, hc⟩ := HS.out.get5 hlt
      have c1 := (hbel.cell (p := ⟨b, off + i, none⟩) hb).trans hc
      have st := keysB_step ss i hlt ((ss.take i).map fun t => t.data.toList)
      have hta := take_snoc ss i hlt
      have hhas := has_Sk (ss.take i) (ss.getD i ByteArray.empty)
      have hkey : keyOf Tryz.prog 9 (.string (ss.getD i ByteArray.empty)) = some (.string (ss.getD i ByteArray.empty).data.toList) := WideMaps.keyOf_string_mk Tryz.underlying9 (HZ.out _ (by rw [List.getD_eq_getElem?_getD, List.getElem?_eq_getElem hlt]; exact List.getElem_mem hlt))
      generalize ss.getD i ByteArray.empty = x at c1 st hta hhas hkey
      have HC := hide (fun w => oname_any x w)
      have HKEY := hide hkey
      have HHAS := hide hhas
      have HTA := hide hta
      rw [hk] at st
      generalize hD : decide (x.data.toList ∈ (ss.take i).map fun t => t.data.toList) = D at hhas
      have hD' : decide (x.data.toList ∉ (ss.take i).map fun t => t.data.toList) = !D := by rw [← hD]; simp
      rw [hD'] at st
      generalize nameB x.data.toList = NB at st HC
      have HST := hide st
      have HD := hide hhas
      clear hc hbel hi hk st hta hkey hD hD' hown HHAS hhas
      cases hhd : Maps.has (Sk (ss.take i)) (.string x.data.toList)
      · have hDf : D = false := by rw [← HD.out]; exact hhd
        subst hDf
        cases NB
        · obtain rfl : R = false := by rw [HST.out]; simp
          go_wp2_with (first
            | (at_lookup; refine wpList_lookup_own_unit _ rfl _ _ 98 rfl 9 99 law9 Tryz.underlying98 (zero95 _) w.heap.size i _ rfl HO.out _ _ rfl HKEY.out ?_; rw [hhd])
            | (go_at_call 79; refine (HC.out _).mono ?_; rintro e w1 ⟨rfl, rfl⟩))
          go_ret
          exact ⟨rfl, HB.out.alloc HB.out.size _⟩
        · have hst : R = keysB ((ss.take (i + 1)).map fun t => t.data.toList) (ss.drop (i + 1)) := by
            rw [HST.out, HTA.out, List.map_append]; simp
          have HST2 := hide hst
          clear hst
          go_wp2_with (first
            | (at_lookup; refine wpList_lookup_own_unit _ rfl _ _ 98 rfl 9 99 law9 Tryz.underlying98 (zero95 _) w.heap.size i _ rfl HO.out _ _ rfl HKEY.out ?_; rw [hhd])
            | (go_at_call 79; refine (HC.out _).mono ?_; rintro e w1 ⟨rfl, rfl⟩)
            | (at_mapUpdate; refine wpList_mapUpdate_own _ rfl _ _ _ 98 rfl 9 99 law9 Tryz.underlying98 (unitElem (H := Unit)) w.heap.size i _ rfl (HO.out.alloc _) (by have := HN.out; unfold maxLen; omega) _ _ _ rfl rfl HKEY.out _ [] unitElem_mk ?_; intro w1 hown1 hgrow1))
          go_roundw
          case rel => exact ⟨i + 1, by go_num, hide ⟨by omega, HST2.out.symm, by rw [HTA.out, Sk_snoc]; exact hown1, (HB.out.alloc HB.out.size _).grown hgrow1 (by have := HB.out.size; simp; omega) (fun j hj => by cases hj; exact Nat.le_refl _), by have := hgrow1.size; simp at this; omega⟩⟩
          case measure => simp [intOf]; omega
      · have hDt : D = true := by rw [← HD.out]; exact hhd
        subst hDt
        obtain rfl : R = false := by rw [HST.out]; simp
        go_wp2_with (first
          | (at_lookup; refine wpList_lookup_own_unit _ rfl _ _ 98 rfl 9 99 law9 Tryz.underlying98 (zero95 _) w.heap.size i _ rfl HO.out _ _ rfl HKEY.out ?_; rw [hhd])
          | (go_at_call 79; refine (HC.out _).mono ?_; rintro e w1 ⟨rfl, rfl⟩))
        go_ret
        exact ⟨rfl, HB.out.alloc HB.out.size _⟩
end Go.Proofs.YtalmcdbdibpgkaaGreatDoor
/-
  What the landed fits answers, kind by kind.
-/
namespace Go.Proofs.YtalmcdbdibpgkaaGreatDoor
open Go.RowKit Go.Deep

theorem OIn.mod {w : World} {p : Pay} {T : BT Pay} {ka ia : Option Addr} {kc ic : Nat} (h : OIn w p T ka kc ia ic) (f : Bool) {n : Int} {t : ByteArray} (hn : n = p.num ∨ n = 0) (ht : t = p.text ∨ t = ⟨#[]⟩) : OIn w ⟨0, f, n, t, p.keys⟩ T ka kc ia ic := by
  obtain ⟨⟨_, h2, h3, h4⟩, h5⟩ := h
  refine ⟨⟨⟨by simp, by simp⟩, ?_, ?_, h4⟩, h5⟩
  · rcases hn with rfl | rfl
    · exact h2
    · simp
  · rcases ht with rfl | rfl
    · exact h3
    · simp [ByteArray.size]
theorem OIn.noItems {w : World} {p : Pay} {T : BT Pay} {ka ia : Option Addr} {kc ic : Nat} (h : OIn w p T ka kc ia ic) : OIn w p .nil ka kc none 0 := by
  obtain ⟨h1, h2, _⟩ := h
  exact ⟨h1, h2, ⟨by simp [flen], by simp [flen]⟩, by omega, Or.inl rfl⟩
theorem OIn.noKeys {w : World} {p : Pay} {T : BT Pay} {ka ia : Option Addr} {kc ic : Nat} (h : OIn w p T ka kc ia ic) : OIn w ⟨p.kind, p.flag, p.num, p.text, []⟩ T none 0 ia ic := by
  obtain ⟨⟨h1, h2, h3, _⟩, _, h5⟩ := h
  exact ⟨⟨h1, h2, h3, by simp⟩, ⟨Or.inl rfl, ⟨by simp, by simp⟩, by omega⟩, h5⟩
theorem size_zero (t : ByteArray) : (t.toList == (⟨#[]⟩ : ByteArray).toList) = (t.size == 0) := by
  rw [Bool.eq_iff_iff, Lib.bytes_beq_iff, beq_iff_eq]
  constructor
  · rintro rfl; rfl
  · intro h; exact ByteArray.ext (Array.eq_empty_of_size_eq_zero h)
theorem same_z (f : Bool) (n : Int) (t : ByteArray) (k : List ByteArray) (T : BT Pay) : sameV ⟨0, f, n, t, k⟩ T zpay .nil = (!f && n == 0 && t.size == 0 && k.length == 0 && flen T == 0) := by
  unfold sameV payEq eqS zpay
  simp only [size_zero]
  have h1 : keysEq k [] = (k.length == 0) := by cases k <;> simp [keysEq]
  have h2 : sameF T .nil = (flen T == 0) := by cases T <;> simp [sameF, flen]
  rw [h1, h2]
  cases f <;> simp
set_option maxRecDepth 8000 in
set_option maxHeartbeats 4000000 in
theorem fits_0 (p : Pay) (T : BT Pay) (ka : Option Addr) (kc : Nat) (ia : Option Addr) (ic : Nat) (w : World) (hin : OIn w p T ka kc ia ic) (hk : p.kind = 0) :
    Calls Tryz.prog 49 #[ov p ka kc ia (flen T) ic] w fun e w' => e = .returned (.bool (flatV p (flen T))) ∧ Below w.heap.size w w' := by
  have hV : flatV p (flen T) = (true && sameV ⟨0, p.flag, p.num, p.text, p.keys⟩ T zpay .nil) := by
    rw [same_z]
    unfold flatV
    rw [hk]
    simp only [bne]
    cases p.flag <;> cases (p.num == 0) <;> cases (p.text.size == 0) <;> cases (p.keys.length == 0) <;> cases (flen T == 0) <;> simp
  have e0 : (p.kind == 0) = true := by rw [hk]; rfl
  have e1 : (p.kind == 1) = false := by rw [hk]; rfl
  have e2 : (p.kind == 2) = false := by rw [hk]; rfl
  have e3 : (p.kind == 3) = false := by rw [hk]; rfl
  have e4 : (p.kind == 4) = false := by rw [hk]; rfl
  have e5 : (p.kind == 5) = false := by rw [hk]; rfl
  have e6 : (p.kind == 6) = false := by rw [hk]; rfl
  have e7 : (p.kind == 7) = false := by rw [hk]; rfl
  have e8 : (p.kind == 8) = false := by rw [hk]; rfl
  have CS := hide (fun w' h => osame_any ⟨0, p.flag, p.num, p.text, p.keys⟩ zpay T .nil ka none kc 0 ia none ic 0 w' ((OIn.below (w := w) (w' := w') h hin).mod p.flag (Or.inl rfl) (Or.inl rfl)) (zin w'))
  have HB := hide (((Below.refl w.heap.size w).alloc (Nat.le_refl _) (.cells (obox p ka kc ia (flen T) ic) 25)).alloc (by simp) (.cells #[.int .i64 0, .bool p.flag, .int .i64 p.num, .string p.text, .slice ka p.keys.length kc, .slice ia (flen T) ic] 25))
  rw [hV]
  generalize sameV ⟨0, p.flag, p.num, p.text, p.keys⟩ T zpay .nil = S at CS
  clear hV hk hin
  go_enter Tryz.func49, Tryz.ntmps49
  go_wp2_with (go_at_call 81; refine (CS.out _ HB.out).mono ?_; rintro e wy ⟨rfl, hy⟩)
  all_goals
    go_ret
    first | exact ⟨rfl, below_t5 HB.out hy⟩ | exact ⟨rfl, HB.out⟩ | exact ⟨by simp, below_t5 HB.out hy⟩ | exact ⟨by simp, HB.out⟩
set_option maxRecDepth 8000 in
set_option maxHeartbeats 4000000 in
theorem fits_1 (p : Pay) (T : BT Pay) (ka : Option Addr) (kc : Nat) (ia : Option Addr) (ic : Nat) (w : World) (hin : OIn w p T ka kc ia ic) (hk : p.kind = 1) :
    Calls Tryz.prog 49 #[ov p ka kc ia (flen T) ic] w fun e w' => e = .returned (.bool (flatV p (flen T))) ∧ Below w.heap.size w w' := by
  have hV : flatV p (flen T) = (true && sameV ⟨0, false, p.num, p.text, p.keys⟩ T zpay .nil) := by
    rw [same_z]
    unfold flatV
    rw [hk]
    simp only [bne]
    cases p.flag <;> cases (p.num == 0) <;> cases (p.text.size == 0) <;> cases (p.keys.length == 0) <;> cases (flen T == 0) <;> simp
  have e0 : (p.kind == 0) = false := by rw [hk]; rfl
  have e1 : (p.kind == 1) = true := by rw [hk]; rfl
  have e2 : (p.kind == 2) = false := by rw [hk]; rfl
  have e3 : (p.kind == 3) = false := by rw [hk]; rfl
  have e4 : (p.kind == 4) = false := by rw [hk]; rfl
  have e5 : (p.kind == 5) = false := by rw [hk]; rfl
  have e6 : (p.kind == 6) = false := by rw [hk]; rfl
  have e7 : (p.kind == 7) = false := by rw [hk]; rfl
  have e8 : (p.kind == 8) = false := by rw [hk]; rfl
  have CS := hide (fun w' h => osame_any ⟨0, false, p.num, p.text, p.keys⟩ zpay T .nil ka none kc 0 ia none ic 0 w' ((OIn.below (w := w) (w' := w') h hin).mod false (Or.inl rfl) (Or.inl rfl)) (zin w'))
  have HB := hide (((Below.refl w.heap.size w).alloc (Nat.le_refl _) (.cells (obox p ka kc ia (flen T) ic) 25)).alloc (by simp) (.cells #[.int .i64 0, .bool false, .int .i64 p.num, .string p.text, .slice ka p.keys.length kc, .slice ia (flen T) ic] 25))
  rw [hV]
  generalize sameV ⟨0, false, p.num, p.text, p.keys⟩ T zpay .nil = S at CS
  clear hV hk hin
  go_enter Tryz.func49, Tryz.ntmps49
  go_wp2_with (go_at_call 81; refine (CS.out _ HB.out).mono ?_; rintro e wy ⟨rfl, hy⟩)
  all_goals
    go_ret
    first | exact ⟨rfl, below_t5 HB.out hy⟩ | exact ⟨rfl, HB.out⟩ | exact ⟨by simp, below_t5 HB.out hy⟩ | exact ⟨by simp, HB.out⟩
set_option maxRecDepth 8000 in
set_option maxHeartbeats 4000000 in
theorem fits_2 (p : Pay) (T : BT Pay) (ka : Option Addr) (kc : Nat) (ia : Option Addr) (ic : Nat) (w : World) (hin : OIn w p T ka kc ia ic) (hk : p.kind = 2) :
    Calls Tryz.prog 49 #[ov p ka kc ia (flen T) ic] w fun e w' => e = .returned (.bool (flatV p (flen T))) ∧ Below w.heap.size w w' := by
  have hV : flatV p (flen T) = (decide (-1099511627776 ≤ p.num ∧ p.num ≤ 1099511627776) && sameV ⟨0, p.flag, 0, p.text, p.keys⟩ T zpay .nil) := by
    rw [same_z]
    unfold flatV
    rw [hk]
    simp only [bne]
    cases p.flag <;> cases (p.num == 0) <;> cases (p.text.size == 0) <;> cases (p.keys.length == 0) <;> cases (flen T == 0) <;> simp
  have e0 : (p.kind == 0) = false := by rw [hk]; rfl
  have e1 : (p.kind == 1) = false := by rw [hk]; rfl
  have e2 : (p.kind == 2) = true := by rw [hk]; rfl
  have e3 : (p.kind == 3) = false := by rw [hk]; rfl
  have e4 : (p.kind == 4) = false := by rw [hk]; rfl
  have e5 : (p.kind == 5) = false := by rw [hk]; rfl
  have e6 : (p.kind == 6) = false := by rw [hk]; rfl
  have e7 : (p.kind == 7) = false := by rw [hk]; rfl
  have e8 : (p.kind == 8) = false := by rw [hk]; rfl
  have CS := hide (fun w' h => osame_any ⟨0, p.flag, 0, p.text, p.keys⟩ zpay T .nil ka none kc 0 ia none ic 0 w' ((OIn.below (w := w) (w' := w') h hin).mod p.flag (Or.inr rfl) (Or.inl rfl)) (zin w'))
  have HB := hide (((Below.refl w.heap.size w).alloc (Nat.le_refl _) (.cells (obox p ka kc ia (flen T) ic) 25)).alloc (by simp) (.cells #[.int .i64 0, .bool p.flag, .int .i64 0, .string p.text, .slice ka p.keys.length kc, .slice ia (flen T) ic] 25))
  rw [hV]
  generalize sameV ⟨0, p.flag, 0, p.text, p.keys⟩ T zpay .nil = S at CS
  clear hV hk hin
  have CI := hide (fun w => in_any p.num w)
  rw [show decide (-1099511627776 ≤ p.num ∧ p.num ≤ 1099511627776) = inB p.num from rfl]
  generalize inB p.num = I at CI ⊢
  cases I
  all_goals
    go_enter Tryz.func49, Tryz.ntmps49
    go_wp2_with (first | (go_at_call 61; refine (CI.out _).mono ?_; rintro e wx ⟨rfl, rfl⟩) | (go_at_call 81; refine (CS.out _ HB.out).mono ?_; rintro e wy ⟨rfl, hy⟩))
    all_goals
      go_ret
      first | exact ⟨rfl, below_t5 HB.out hy⟩ | exact ⟨rfl, HB.out⟩ | exact ⟨by simp, below_t5 HB.out hy⟩ | exact ⟨by simp, HB.out⟩
set_option maxRecDepth 8000 in
set_option maxHeartbeats 4000000 in
theorem fits_3 (p : Pay) (T : BT Pay) (ka : Option Addr) (kc : Nat) (ia : Option Addr) (ic : Nat) (w : World) (hin : OIn w p T ka kc ia ic) (hk : p.kind = 3) :
    Calls Tryz.prog 49 #[ov p ka kc ia (flen T) ic] w fun e w' => e = .returned (.bool (flatV p (flen T))) ∧ Below w.heap.size w w' := by
  have hV : flatV p (flen T) = ((decide (-1099511627776 ≤ p.num ∧ p.num ≤ 1099511627776) && decide (p.num % 65536 ≠ 0)) && sameV ⟨0, p.flag, 0, p.text, p.keys⟩ T zpay .nil) := by
    rw [same_z]
    unfold flatV
    rw [hk]
    simp only [bne]
    cases p.flag <;> cases (p.num == 0) <;> cases (p.text.size == 0) <;> cases (p.keys.length == 0) <;> cases (flen T == 0) <;> simp
  have e0 : (p.kind == 0) = false := by rw [hk]; rfl
  have e1 : (p.kind == 1) = false := by rw [hk]; rfl
  have e2 : (p.kind == 2) = false := by rw [hk]; rfl
  have e3 : (p.kind == 3) = true := by rw [hk]; rfl
  have e4 : (p.kind == 4) = false := by rw [hk]; rfl
  have e5 : (p.kind == 5) = false := by rw [hk]; rfl
  have e6 : (p.kind == 6) = false := by rw [hk]; rfl
  have e7 : (p.kind == 7) = false := by rw [hk]; rfl
  have e8 : (p.kind == 8) = false := by rw [hk]; rfl
  have CS := hide (fun w' h => osame_any ⟨0, p.flag, 0, p.text, p.keys⟩ zpay T .nil ka none kc 0 ia none ic 0 w' ((OIn.below (w := w) (w' := w') h hin).mod p.flag (Or.inr rfl) (Or.inl rfl)) (zin w'))
  have HB := hide (((Below.refl w.heap.size w).alloc (Nat.le_refl _) (.cells (obox p ka kc ia (flen T) ic) 25)).alloc (by simp) (.cells #[.int .i64 0, .bool p.flag, .int .i64 0, .string p.text, .slice ka p.keys.length kc, .slice ia (flen T) ic] 25))
  rw [hV]
  generalize sameV ⟨0, p.flag, 0, p.text, p.keys⟩ T zpay .nil = S at CS
  clear hV hk hin
  have CI := hide (fun w => in_any p.num w)
  rw [show decide (-1099511627776 ≤ p.num ∧ p.num ≤ 1099511627776) = inB p.num from rfl]
  generalize inB p.num = I at CI ⊢
  have hD : decide (p.num % 65536 ≠ 0) = (p.num.tmod 65536 != 0) := by
    rw [Bool.eq_iff_iff, decide_eq_true_iff, bne_iff_ne]
    constructor <;> intro h h' <;> apply h
    · exact Int.emod_eq_zero_of_dvd (Int.dvd_of_tmod_eq_zero h')
    · exact Int.tmod_eq_zero_of_dvd (Int.dvd_of_emod_eq_zero h')
  rw [hD]
  cases hD2 : (p.num.tmod 65536 != 0) <;> cases I
  all_goals
    go_enter Tryz.func49, Tryz.ntmps49
    go_wp2_with (first | (go_at_call 61; refine (CI.out _).mono ?_; rintro e wx ⟨rfl, rfl⟩) | (go_at_call 81; refine (CS.out _ HB.out).mono ?_; rintro e wy ⟨rfl, hy⟩))
    all_goals
      go_ret
      first | exact ⟨rfl, below_t5 HB.out hy⟩ | exact ⟨rfl, HB.out⟩ | exact ⟨by simp, below_t5 HB.out hy⟩ | exact ⟨by simp, HB.out⟩
set_option maxRecDepth 8000 in
set_option maxHeartbeats 4000000 in
theorem fits_4 (p : Pay) (T : BT Pay) (ka : Option Addr) (kc : Nat) (ia : Option Addr) (ic : Nat) (w : World) (hin : OIn w p T ka kc ia ic) (hk : p.kind = 4) :
    Calls Tryz.prog 49 #[ov p ka kc ia (flen T) ic] w fun e w' => e = .returned (.bool (flatV p (flen T))) ∧ Below w.heap.size w w' := by
  have hV : flatV p (flen T) = (nameB p.text.data.toList && sameV ⟨0, p.flag, p.num, ⟨#[]⟩, p.keys⟩ T zpay .nil) := by
    rw [same_z]
    unfold flatV
    rw [hk]
    simp only [bne]
    cases p.flag <;> cases (p.num == 0) <;> cases (p.text.size == 0) <;> cases (p.keys.length == 0) <;> cases (flen T == 0) <;> simp [ByteArray.size]
  have e0 : (p.kind == 0) = false := by rw [hk]; rfl
  have e1 : (p.kind == 1) = false := by rw [hk]; rfl
  have e2 : (p.kind == 2) = false := by rw [hk]; rfl
  have e3 : (p.kind == 3) = false := by rw [hk]; rfl
  have e4 : (p.kind == 4) = true := by rw [hk]; rfl
  have e5 : (p.kind == 5) = false := by rw [hk]; rfl
  have e6 : (p.kind == 6) = false := by rw [hk]; rfl
  have e7 : (p.kind == 7) = false := by rw [hk]; rfl
  have e8 : (p.kind == 8) = false := by rw [hk]; rfl
  have CS := hide (fun w' h => osame_any ⟨0, p.flag, p.num, ⟨#[]⟩, p.keys⟩ zpay T .nil ka none kc 0 ia none ic 0 w' ((OIn.below (w := w) (w' := w') h hin).mod p.flag (Or.inl rfl) (Or.inr rfl)) (zin w'))
  have HB := hide (((Below.refl w.heap.size w).alloc (Nat.le_refl _) (.cells (obox p ka kc ia (flen T) ic) 25)).alloc (by simp) (.cells #[.int .i64 0, .bool p.flag, .int .i64 p.num, .string ⟨#[]⟩, .slice ka p.keys.length kc, .slice ia (flen T) ic] 25))
  rw [hV]
  generalize sameV ⟨0, p.flag, p.num, ⟨#[]⟩, p.keys⟩ T zpay .nil = S at CS
  clear hV hk hin
  have CI := hide (fun w => oname_any p.text w)
  generalize nameB p.text.data.toList = I at CI ⊢
  cases I
  all_goals
    go_enter Tryz.func49, Tryz.ntmps49
    go_wp2_with (first | (go_at_call 79; refine (CI.out _).mono ?_; rintro e wx ⟨rfl, rfl⟩) | (go_at_call 81; refine (CS.out _ HB.out).mono ?_; rintro e wy ⟨rfl, hy⟩))
    all_goals
      go_ret
      first | exact ⟨rfl, below_t5 HB.out hy⟩ | exact ⟨rfl, HB.out⟩ | exact ⟨by simp, below_t5 HB.out hy⟩ | exact ⟨by simp, HB.out⟩
set_option maxRecDepth 8000 in
set_option maxHeartbeats 4000000 in
theorem fits_5 (p : Pay) (T : BT Pay) (ka : Option Addr) (kc : Nat) (ia : Option Addr) (ic : Nat) (w : World) (hin : OIn w p T ka kc ia ic) (hk : p.kind = 5) :
    Calls Tryz.prog 49 #[ov p ka kc ia (flen T) ic] w fun e w' => e = .returned (.bool (flatV p (flen T))) ∧ Below w.heap.size w w' := by
  have hV : flatV p (flen T) = (decide (p.text.size ≤ 65536) && sameV ⟨0, p.flag, p.num, ⟨#[]⟩, p.keys⟩ T zpay .nil) := by
    rw [same_z]
    unfold flatV
    rw [hk]
    simp only [bne]
    generalize decide (p.text.size ≤ 65536) = Z
    cases p.flag <;> cases (p.num == 0) <;> cases (p.text.size == 0) <;> cases (p.keys.length == 0) <;> cases (flen T == 0) <;> simp [ByteArray.size]
  have e0 : (p.kind == 0) = false := by rw [hk]; rfl
  have e1 : (p.kind == 1) = false := by rw [hk]; rfl
  have e2 : (p.kind == 2) = false := by rw [hk]; rfl
  have e3 : (p.kind == 3) = false := by rw [hk]; rfl
  have e4 : (p.kind == 4) = false := by rw [hk]; rfl
  have e5 : (p.kind == 5) = true := by rw [hk]; rfl
  have e6 : (p.kind == 6) = false := by rw [hk]; rfl
  have e7 : (p.kind == 7) = false := by rw [hk]; rfl
  have e8 : (p.kind == 8) = false := by rw [hk]; rfl
  have CS := hide (fun w' h => osame_any ⟨0, p.flag, p.num, ⟨#[]⟩, p.keys⟩ zpay T .nil ka none kc 0 ia none ic 0 w' ((OIn.below (w := w) (w' := w') h hin).mod p.flag (Or.inl rfl) (Or.inr rfl)) (zin w'))
  have HB := hide (((Below.refl w.heap.size w).alloc (Nat.le_refl _) (.cells (obox p ka kc ia (flen T) ic) 25)).alloc (by simp) (.cells #[.int .i64 0, .bool p.flag, .int .i64 p.num, .string ⟨#[]⟩, .slice ka p.keys.length kc, .slice ia (flen T) ic] 25))
  rw [hV]
  generalize sameV ⟨0, p.flag, p.num, ⟨#[]⟩, p.keys⟩ T zpay .nil = S at CS
  clear hV hk hin
  have hD : decide (p.text.size ≤ 65536) = decide ((p.text.size : Int) ≤ 65536) := by simp; omega
  rw [hD]
  cases h5 : decide ((p.text.size : Int) ≤ 65536)
  all_goals
    go_enter Tryz.func49, Tryz.ntmps49
    go_wp2_with (go_at_call 81; refine (CS.out _ HB.out).mono ?_; rintro e wy ⟨rfl, hy⟩)
    all_goals
      go_ret
      first | exact ⟨rfl, below_t5 HB.out hy⟩ | exact ⟨rfl, HB.out⟩ | exact ⟨by simp, below_t5 HB.out hy⟩ | exact ⟨by simp, HB.out⟩
set_option maxRecDepth 8000 in
set_option maxHeartbeats 4000000 in
theorem fits_6 (p : Pay) (T : BT Pay) (ka : Option Addr) (kc : Nat) (ia : Option Addr) (ic : Nat) (w : World) (hin : OIn w p T ka kc ia ic) (hk : p.kind = 6) :
    Calls Tryz.prog 49 #[ov p ka kc ia (flen T) ic] w fun e w' => e = .returned (.bool (flatV p (flen T))) ∧ Below w.heap.size w w' := by
  have hV : flatV p (flen T) = (true && sameV ⟨0, p.flag, p.num, p.text, p.keys⟩ .nil zpay .nil) := by
    rw [same_z]
    unfold flatV
    rw [hk]
    simp only [bne]
    cases p.flag <;> cases (p.num == 0) <;> cases (p.text.size == 0) <;> cases (p.keys.length == 0) <;> cases (flen T == 0) <;> simp [flen]
  have e0 : (p.kind == 0) = false := by rw [hk]; rfl
  have e1 : (p.kind == 1) = false := by rw [hk]; rfl
  have e2 : (p.kind == 2) = false := by rw [hk]; rfl
  have e3 : (p.kind == 3) = false := by rw [hk]; rfl
  have e4 : (p.kind == 4) = false := by rw [hk]; rfl
  have e5 : (p.kind == 5) = false := by rw [hk]; rfl
  have e6 : (p.kind == 6) = true := by rw [hk]; rfl
  have e7 : (p.kind == 7) = false := by rw [hk]; rfl
  have e8 : (p.kind == 8) = false := by rw [hk]; rfl
  have CS := hide (fun w' h => osame_any ⟨0, p.flag, p.num, p.text, p.keys⟩ zpay .nil .nil ka none kc 0 none none 0 0 w' (((OIn.below (w := w) (w' := w') h hin).mod p.flag (Or.inl rfl) (Or.inl rfl)).noItems) (zin w'))
  have HB := hide (((Below.refl w.heap.size w).alloc (Nat.le_refl _) (.cells (obox p ka kc ia (flen T) ic) 25)).alloc (by simp) (.cells #[.int .i64 0, .bool p.flag, .int .i64 p.num, .string p.text, .slice ka p.keys.length kc, .slice none 0 0] 25))
  rw [hV]
  generalize sameV ⟨0, p.flag, p.num, p.text, p.keys⟩ .nil zpay .nil = S at CS
  clear hV hk hin
  go_enter Tryz.func49, Tryz.ntmps49
  go_wp2_with (go_at_call 81; refine (CS.out _ HB.out).mono ?_; rintro e wy ⟨rfl, hy⟩)
  all_goals
    go_ret
    first | exact ⟨rfl, below_t5 HB.out hy⟩ | exact ⟨rfl, HB.out⟩ | exact ⟨by simp, below_t5 HB.out hy⟩ | exact ⟨by simp, HB.out⟩
set_option maxRecDepth 8000 in
set_option maxHeartbeats 4000000 in
theorem fits_8 (p : Pay) (T : BT Pay) (ka : Option Addr) (kc : Nat) (ia : Option Addr) (ic : Nat) (w : World) (hin : OIn w p T ka kc ia ic) (hk : p.kind = 8) :
    Calls Tryz.prog 49 #[ov p ka kc ia (flen T) ic] w fun e w' => e = .returned (.bool (flatV p (flen T))) ∧ Below w.heap.size w w' := by
  have hV : flatV p (flen T) = (decide (1 ≤ p.num ∧ p.num ≤ 4096) && sameV ⟨0, p.flag, 0, p.text, p.keys⟩ T zpay .nil) := by
    rw [same_z]
    unfold flatV
    rw [hk]
    simp only [bne]
    cases p.flag <;> cases (p.num == 0) <;> cases (p.text.size == 0) <;> cases (p.keys.length == 0) <;> cases (flen T == 0) <;> simp
  have e0 : (p.kind == 0) = false := by rw [hk]; rfl
  have e1 : (p.kind == 1) = false := by rw [hk]; rfl
  have e2 : (p.kind == 2) = false := by rw [hk]; rfl
  have e3 : (p.kind == 3) = false := by rw [hk]; rfl
  have e4 : (p.kind == 4) = false := by rw [hk]; rfl
  have e5 : (p.kind == 5) = false := by rw [hk]; rfl
  have e6 : (p.kind == 6) = false := by rw [hk]; rfl
  have e7 : (p.kind == 7) = false := by rw [hk]; rfl
  have e8 : (p.kind == 8) = true := by rw [hk]; rfl
  have CS := hide (fun w' h => osame_any ⟨0, p.flag, 0, p.text, p.keys⟩ zpay T .nil ka none kc 0 ia none ic 0 w' ((OIn.below (w := w) (w' := w') h hin).mod p.flag (Or.inr rfl) (Or.inl rfl)) (zin w'))
  have HB := hide (((Below.refl w.heap.size w).alloc (Nat.le_refl _) (.cells (obox p ka kc ia (flen T) ic) 25)).alloc (by simp) (.cells #[.int .i64 0, .bool p.flag, .int .i64 0, .string p.text, .slice ka p.keys.length kc, .slice ia (flen T) ic] 25))
  rw [hV]
  generalize sameV ⟨0, p.flag, 0, p.text, p.keys⟩ T zpay .nil = S at CS
  clear hV hk hin
  rw [Bool.decide_and]
  cases h1 : decide (1 ≤ p.num) <;> cases h2 : decide (p.num ≤ 4096)
  all_goals
    go_enter Tryz.func49, Tryz.ntmps49
    go_wp2_with (go_at_call 81; refine (CS.out _ HB.out).mono ?_; rintro e wy ⟨rfl, hy⟩)
    all_goals
      go_ret
      first | exact ⟨rfl, below_t5 HB.out hy⟩ | exact ⟨rfl, HB.out⟩ | exact ⟨by simp, below_t5 HB.out hy⟩ | exact ⟨by simp, HB.out⟩
set_option maxRecDepth 8000 in
set_option maxHeartbeats 4000000 in
theorem fits_7 (p : Pay) (T : BT Pay) (ka : Option Addr) (kc : Nat) (ia : Option Addr) (ic : Nat) (w : World) (hin : OIn w p T ka kc ia ic) (hk : p.kind = 7) :
    Calls Tryz.prog 49 #[ov p ka kc ia (flen T) ic] w fun e w' => e = .returned (.bool (flatV p (flen T))) ∧ Below w.heap.size w w' := by
  have hV : flatV p (flen T) = ((decide (p.keys.length = flen T) && keysB [] p.keys) && sameV ⟨0, p.flag, p.num, p.text, []⟩ .nil zpay .nil) := by
    rw [same_z]
    unfold flatV
    rw [hk]
    simp only [bne]
    cases p.flag <;> cases (p.num == 0) <;> cases (p.text.size == 0) <;> cases (p.keys.length == 0) <;> cases (flen T == 0) <;> simp [flen]
  have e0 : (p.kind == 0) = false := by rw [hk]; rfl
  have e1 : (p.kind == 1) = false := by rw [hk]; rfl
  have e2 : (p.kind == 2) = false := by rw [hk]; rfl
  have e3 : (p.kind == 3) = false := by rw [hk]; rfl
  have e4 : (p.kind == 4) = false := by rw [hk]; rfl
  have e5 : (p.kind == 5) = false := by rw [hk]; rfl
  have e6 : (p.kind == 6) = false := by rw [hk]; rfl
  have e7 : (p.kind == 7) = true := by rw [hk]; rfl
  have e8 : (p.kind == 8) = false := by rw [hk]; rfl
  have CS := hide (fun w' h => osame_any ⟨0, p.flag, p.num, p.text, []⟩ zpay .nil .nil none none 0 0 none none 0 0 w' (((OIn.below (w := w) (w' := w') h hin).mod p.flag (Or.inl rfl) (Or.inl rfl)).noItems.noKeys) (zin w'))
  have HB := hide (((Below.refl w.heap.size w).alloc (Nat.le_refl _) (.cells (obox p ka kc ia (flen T) ic) 25)).alloc (by simp) (.cells #[.int .i64 0, .bool p.flag, .int .i64 p.num, .string p.text, .slice ka p.keys.length kc, .slice ia (flen T) ic] 25))
  have HB2 := hide (((Below.refl w.heap.size w).alloc (Nat.le_refl _) (.cells (obox p ka kc ia (flen T) ic) 25)).alloc (by simp) (.cells #[.int .i64 0, .bool p.flag, .int .i64 p.num, .string p.text, .slice none 0 0, .slice none 0 0] 25))
  have CK := hide (fun w' h => areKeys_any ka p.keys kc w' (Strs.below (w := w) (w' := w') hin.2.1.1 h) (by have := hin.2.1.2.1; omega) hin.1.2.2.2)
  rw [hV]
  generalize sameV ⟨0, p.flag, p.num, p.text, []⟩ .nil zpay .nil = S at CS
  generalize keysB [] p.keys = KB at CK
  have hl1 : (flen T : Int) ≤ 9223372036854775807 := by have h := hin.2.2.1; have h' := hin.2.2.2.1; omega
  have hl3 : (p.keys.length : Int) ≤ 9223372036854775807 := by have h := hin.2.1.2.1; have h' := hin.2.1.2.2; omega
  have hD : decide (p.keys.length = flen T) = ((p.keys.length : Int) == (flen T : Int)) := by rw [Bool.eq_iff_iff, decide_eq_true_iff, beq_iff_eq]; omega
  rw [hD]
  have HR : Hid (Blk ((w.alloc (.cells (obox p ka kc ia (flen T) ic) 25)).alloc (.cells #[.int .i64 0, .bool p.flag, .int .i64 p.num, .string p.text, .slice ka p.keys.length kc, .slice ia (flen T) ic] 25)) (w.heap.size + 1) #[.int .i64 0, .bool p.flag, .int .i64 p.num, .string p.text, .slice ka p.keys.length kc, .slice ia (flen T) ic] 25) := hide (by
    have := Blk.new (w.alloc (.cells (obox p ka kc ia (flen T) ic) 25)) #[.int .i64 0, .bool p.flag, .int .i64 p.num, .string p.text, .slice ka p.keys.length kc, .slice ia (flen T) ic] 25
    rwa [show (w.alloc (.cells (obox p ka kc ia (flen T) ic) 25)).heap.size = w.heap.size + 1 by simp] at this)
  clear hV hk hin hD
  cases hE : ((p.keys.length : Int) == (flen T : Int))
  · go_enter Tryz.func49, Tryz.ntmps49
    go_wp2_with fail
    go_ret
    exact ⟨by simp, HB2.out⟩
  cases KB
  all_goals
    go_enter Tryz.func49, Tryz.ntmps49
    go_wp2_with (first | (go_at_call 80; refine (CK.out _ HB.out).mono ?_; rintro e wx ⟨rfl, hx⟩; have HX := hide hx; obtain ⟨⟨r0, r1, r2, r3, r4, r5⟩, ⟨y0, y1, y2, y3, y4, y5⟩⟩ := (HR.out.below hx).six; clear hx) | (go_at_call 81; refine (CS.out _ ?_).mono ?_; exact ((below_t5 HB.out HX.out).setCell (p := ⟨w.heap.size + 1, 4, none⟩) (by simp) _).setCell (p := ⟨w.heap.size + 1, 5, none⟩) (by simp) _; rintro e wy ⟨rfl, hy⟩))
    go_ret
    first | exact ⟨by simp, below_t5 (((below_t5 HB.out HX.out).setCell (p := ⟨w.heap.size + 1, 4, none⟩) (by simp) _).setCell (p := ⟨w.heap.size + 1, 5, none⟩) (by simp) _) hy⟩ | exact ⟨by simp, ((below_t5 HB.out HX.out).setCell (p := ⟨w.heap.size + 1, 4, none⟩) (by simp) _).setCell (p := ⟨w.heap.size + 1, 5, none⟩) (by simp) _⟩
set_option maxRecDepth 8000 in
set_option maxHeartbeats 4000000 in
theorem fits_none (p : Pay) (T : BT Pay) (ka : Option Addr) (kc : Nat) (ia : Option Addr) (ic : Nat) (w : World) (hk : ∀ j : Int, 0 ≤ j → j ≤ 8 → p.kind ≠ j) :
    Calls Tryz.prog 49 #[ov p ka kc ia (flen T) ic] w fun e w' => e = .returned (.bool (flatV p (flen T))) ∧ Below w.heap.size w w' := by
  have hV : flatV p (flen T) = false := by
    unfold flatV
    have h0 := hk 0 (by omega) (by omega)
    have h1 := hk 1 (by omega) (by omega)
    have h2 := hk 2 (by omega) (by omega)
    have h3 := hk 3 (by omega) (by omega)
    have h4 := hk 4 (by omega) (by omega)
    have h5 := hk 5 (by omega) (by omega)
    have h6 := hk 6 (by omega) (by omega)
    have h7 := hk 7 (by omega) (by omega)
    have h8 := hk 8 (by omega) (by omega)
    rw [if_neg h2, if_neg h3, if_neg h4, if_neg h5, if_neg h7, if_neg h8]
    simp [h0, h1, h6]
  have e0 : (p.kind == 0) = false := by rw [beq_eq_false_iff_ne]; exact hk 0 (by omega) (by omega)
  have e1 : (p.kind == 1) = false := by rw [beq_eq_false_iff_ne]; exact hk 1 (by omega) (by omega)
  have e2 : (p.kind == 2) = false := by rw [beq_eq_false_iff_ne]; exact hk 2 (by omega) (by omega)
  have e3 : (p.kind == 3) = false := by rw [beq_eq_false_iff_ne]; exact hk 3 (by omega) (by omega)
  have e4 : (p.kind == 4) = false := by rw [beq_eq_false_iff_ne]; exact hk 4 (by omega) (by omega)
  have e5 : (p.kind == 5) = false := by rw [beq_eq_false_iff_ne]; exact hk 5 (by omega) (by omega)
  have e6 : (p.kind == 6) = false := by rw [beq_eq_false_iff_ne]; exact hk 6 (by omega) (by omega)
  have e7 : (p.kind == 7) = false := by rw [beq_eq_false_iff_ne]; exact hk 7 (by omega) (by omega)
  have e8 : (p.kind == 8) = false := by rw [beq_eq_false_iff_ne]; exact hk 8 (by omega) (by omega)
  have HB := hide (((Below.refl w.heap.size w).alloc (Nat.le_refl _) (.cells (obox p ka kc ia (flen T) ic) 25)).alloc (by simp) (.cells #[.int .i64 0, .bool p.flag, .int .i64 p.num, .string p.text, .slice ka p.keys.length kc, .slice ia (flen T) ic] 25))
  rw [hV]
  clear hV hk
  go_enter Tryz.func49, Tryz.ntmps49
  go_wp2_with fail
  go_ret
  exact ⟨rfl, HB.out⟩
theorem fits_any (p : Pay) (T : BT Pay) (ka : Option Addr) (kc : Nat) (ia : Option Addr) (ic : Nat) (w : World) (hin : OIn w p T ka kc ia ic) :
    Calls Tryz.prog 49 #[ov p ka kc ia (flen T) ic] w fun e w' => e = .returned (.bool (flatV p (flen T))) ∧ Below w.heap.size w w' := by
  by_cases h0 : p.kind = 0
  · exact fits_0 p T ka kc ia ic w hin h0
  by_cases h1 : p.kind = 1
  · exact fits_1 p T ka kc ia ic w hin h1
  by_cases h2 : p.kind = 2
  · exact fits_2 p T ka kc ia ic w hin h2
  by_cases h3 : p.kind = 3
  · exact fits_3 p T ka kc ia ic w hin h3
  by_cases h4 : p.kind = 4
  · exact fits_4 p T ka kc ia ic w hin h4
  by_cases h5 : p.kind = 5
  · exact fits_5 p T ka kc ia ic w hin h5
  by_cases h6 : p.kind = 6
  · exact fits_6 p T ka kc ia ic w hin h6
  by_cases h7 : p.kind = 7
  · exact fits_7 p T ka kc ia ic w hin h7
  by_cases h8 : p.kind = 8
  · exact fits_8 p T ka kc ia ic w hin h8
  exact fits_none p T ka kc ia ic w fun j a b => by omega
end Go.Proofs.YtalmcdbdibpgkaaGreatDoor
/-
  What the landed good and Good answer.
-/
namespace Go.Proofs.YtalmcdbdibpgkaaGreatDoor
open Go.RowKit Go.Deep

theorem goodF_ge : ∀ (T : BT Pay) (nest n : Int), 0 ≤ n → 0 ≤ goodF T nest n → n + flen T ≤ goodF T nest n
  | .nil, _, n, _, h => by simp only [goodF, flen] at h ⊢; omega
  | .node _ _ p T N, nest, n, h0, h => by
    rw [goodF_node] at h ⊢
    by_cases hv : goodV p T nest n < 0
    · rw [if_pos hv] at h; omega
    rw [if_neg hv] at h ⊢
    have h1 : n + 1 ≤ goodV p T nest n := by
      unfold goodV gV at hv ⊢
      split at hv
      · omega
      · rename_i hc
        rw [if_neg hc]
        split at hv
        · rename_i hcc
          rw [if_pos hcc]
          split at hv
          · omega
          · rename_i hd
            rw [if_neg hd]
            have := goodF_ge T (nest + 1) (n + 1) (by omega) (by omega)
            omega
        · rename_i hcc
          rw [if_neg hcc]
          have := goodF_ge T nest (n + 1) (by omega) (by omega)
          omega
    have := goodF_ge N nest _ (by omega) h
    simp only [flen]
    omega
theorem flat_noItems {p : Pay} {n : Nat} (h : flatV p n = true) (hc : cont p = false) : n = 0 := by
  unfold flatV at h
  unfold cont at hc
  simp only [Bool.or_eq_false_iff] at hc
  simp only [Bool.and_eq_true, Bool.not_eq_true', Bool.or_eq_false_iff] at h
  have := h.1.2
  simp only [bne, hc.1, hc.2, Bool.not_false, Bool.and_true] at this
  simpa using this
/- the landed way: as many as are left -/
theorem good_land {p : Pay} {T : BT Pay} {nest n : Int} (h0 : 0 ≤ n) (h1 : n ≤ 65536) :
    goodV p T nest (65536 - n) = if n - 1 < flen T ∨ flatV p (flen T) = false ∨ cont p = true ∧ 32 < nest + 1 then goodV p T nest (65536 - n) else goodF T (nest + 1) (65536 - (n - 1)) := by
  split
  · rfl
  · rename_i hc
    have hf : flatV p (flen T) = true := by
      cases h : flatV p (flen T) with
      | true => rfl
      | false => exact absurd (Or.inr (Or.inl h)) hc
    unfold goodV gV
    rw [if_neg (by rintro (h | h); exact hc (Or.inl (by omega)); rw [hf] at h; cases h)]
    by_cases hcc : cont p = true
    · rw [if_pos hcc, if_neg (fun h => hc (Or.inr (Or.inr ⟨hcc, h⟩)))]
      congr 1
      omega
    · rw [if_neg hcc]
      have := flen_zero (flat_noItems hf (by simpa using hcc))
      subst this
      simp only [goodF]
      omega
theorem good_bad {p : Pay} {T : BT Pay} {nest n : Int} (h0 : 0 ≤ n) (h1 : n ≤ 65536) (h : n - 1 < flen T ∨ flatV p (flen T) = false ∨ cont p = true ∧ 32 < nest + 1) : decide (0 ≤ goodV p T nest (65536 - n)) = false := by
  rw [decide_eq_false_iff_not]
  intro hg
  unfold goodV gV at hg
  by_cases hc : 65536 < 65536 - n + 1 ∨ flatV p (flen T) = false
  · rw [if_pos hc] at hg; omega
  rw [if_neg hc] at hg
  by_cases hcc : cont p = true
  · rw [if_pos hcc] at hg
    by_cases hd : 32 < nest + 1
    · rw [if_pos hd] at hg; omega
    · rw [if_neg hd] at hg
      have h2 := goodF_ge T _ _ (by omega) hg
      have h3 := goodF_le T (nest + 1) (65536 - n + 1) (by omega) (by omega)
      rcases h with h | h | h
      · omega
      · exact hc (Or.inr h)
      · exact hd h.2
  · rw [if_neg hcc] at hg
    have h2 := goodF_ge T _ _ (by omega) hg
    have h3 := goodF_le T nest (65536 - n + 1) (by omega) (by omega)
    rcases h with h | h | h
    · omega
    · exact hc (Or.inr h)
    · exact hcc h.1
/- an object that lies outside the block L -/
noncomputable abbrev out_ (L : Nat) (w : World) : World := onlyA (fun k => k ≠ L) w
theorem But.out_ {L : Nat} {w w' : World} (h : But L w w') : Sub (out_ L w) (out_ L w') := onlyA_sub h.size fun k hk hl => ⟨hk, h.block k hl hk⟩
theorem Blk.but {L b : Nat} {w w' : World} {cs : Array Value} {t : TypeId} (h : Blk w b cs t) (hb : But L w w') (hne : b ≠ L) : Blk w' b cs t := by
  have hl := h.lt
  unfold Blk at *; rw [hb.block b hl hne]; exact h
section
variable {P : Program} {md : Region.Mode} {ops : Array Oper} {Q : Exit → Act → World → Prop} {S : World → Prop}
theorem takeW {i d : Nat} {oi : Oper} {v : Value} {fuel : Nat} {listed : Array Bool} {a : Act} {w : World} (hi : ops[i]? = some oi) (hd : oi.dst = some d)
    (hs : Region.noSelect ops = true) (hf : Region.free md ops listed i = true) (hr : (Region.ready md ops listed).contains i = true)
    (hQ : ∀ c a w, Q (.panic c) (a.put (some d) v) w → Q (.panic c) a w) (hw : Region.wanted oi (yielded ops a.tmps) = true) (hy : ∀ w, S w → (execOp a.eval oi).run P w = .ok (.value v) w) (hS : S w)
    (h : wpAnyH P md ops Q S fuel (listed.setIfInBounds i true) (a.put (some d) v) w) : wpAnyH P md ops Q S (fuel + 1) listed a w :=
  wpAnyH_take hi hs hf hr (by rw [hd]; exact hQ) (Or.inl ⟨hw, hy⟩) hS (by rw [hd]; exact h)
theorem takeN {i d : Nat} {oi : Oper} {fuel : Nat} {listed : Array Bool} {a : Act} {w : World} (hi : ops[i]? = some oi) (hd : oi.dst = some d)
    (hs : Region.noSelect ops = true) (hf : Region.free md ops listed i = true) (hr : (Region.ready md ops listed).contains i = true)
    (hQ : ∀ c a w, Q (.panic c) (a.put (some d) undef) w → Q (.panic c) a w) (hw : Region.wanted oi (yielded ops a.tmps) = false) (hS : S w)
    (h : wpAnyH P md ops Q S fuel (listed.setIfInBounds i true) (a.put (some d) undef) w) : wpAnyH P md ops Q S (fuel + 1) listed a w :=
  wpAnyH_take hi hs hf hr (by rw [hd]; exact hQ) (Or.inr ⟨hw, rfl⟩) hS (by rw [hd]; exact h)
end
theorem skip_if {c : Bool} {A B : Prop} (h : c = false) (k : B) : if c = true then A else B := by rw [h]; exact k
def GoodR (L : Nat) (w : World) (g : Int) (e : Ending) (w' : World) : Prop :=
  e = .returned (.bool (decide (0 ≤ g))) ∧ But L w w' ∧ ∃ n' : Int, Blk w' L #[.int .i64 n'] 3 ∧ (0 ≤ g → n' = 65536 - g)
set_option maxRecDepth 8000 in
set_option maxHeartbeats 4000000 in
theorem ogood_step (M : Nat)
    (ih : ∀ (p : Pay) (T : BT Pay) (ka : Option Addr) (kc : Nat) (ia : Option Addr) (ic : Nat) (deep n : Int) (L : Nat) (w : World), fsize T < M → OIn (out_ L w) p T ka kc ia ic → 1 ≤ deep → deep ≤ 33 → 0 ≤ n → n ≤ 65536 → Blk w L #[.int .i64 n] 3 →
      Calls Tryz.prog 27 #[ov p ka kc ia (flen T) ic, .int .i64 deep, .pointer (some ⟨L, 0, none⟩)] w fun e w' => GoodR L w (goodV p T (deep - 1) (65536 - n)) e w')
    (p : Pay) (T : BT Pay) (ka : Option Addr) (kc : Nat) (ia : Option Addr) (ic : Nat) (deep n : Int) (L : Nat) (w : World) (hM : fsize T ≤ M) (hin : OIn (out_ L w) p T ka kc ia ic) (hd0 : 1 ≤ deep) (hd1 : deep ≤ 33) (h0 : 0 ≤ n) (h1 : n ≤ 65536) (hL : Blk w L #[.int .i64 n] 3) :
      Calls Tryz.prog 27 #[ov p ka kc ia (flen T) ic, .int .i64 deep, .pointer (some ⟨L, 0, none⟩)] w fun e w' => GoodR L w (goodV p T (deep - 1) (65536 - n)) e w' := by
  have IH := hide ih
  have HI := hide hin
  have HM := hide hM
  have hl1 : (flen T : Int) ≤ 9223372036854775807 := by have h := hin.2.2.1; have h' := hin.2.2.2.1; omega
  have hl0 : (0 : Int) ≤ (flen T : Int) := by omega
  have hlt : L < w.heap.size := hL.lt
  have l0 : w.cell? ⟨L, 0, none⟩ = some (.int .i64 n) := hL.cell 0
  have z0 := hL.frozen 0
  have HL : Hid (Blk ((w.setCell ⟨L, 0, none⟩ (.int .i64 (n - 1))).alloc (.cells (obox p ka kc ia (flen T) ic) 25)) L #[.int .i64 (n - 1)] 3) := hide ((hL.set 0 (.int .i64 (n - 1))).below ((Below.refl _ _).alloc (Nat.le_refl _) _))
  have hsz : (w.setCell ⟨L, 0, none⟩ (.int .i64 (n - 1))).heap.size = w.heap.size := by simp [World.setCell]
  have HK : Hid (Blk ((w.setCell ⟨L, 0, none⟩ (.int .i64 (n - 1))).alloc (.cells (obox p ka kc ia (flen T) ic) 25)) w.heap.size (obox p ka kc ia (flen T) ic) 25) := hide (by
    have := Blk.new (w.setCell ⟨L, 0, none⟩ (.int .i64 (n - 1))) (obox p ka kc ia (flen T) ic) 25
    rwa [hsz] at this)
  have HU : Hid (But L w ((w.setCell ⟨L, 0, none⟩ (.int .i64 (n - 1))).alloc (.cells (obox p ka kc ia (flen T) ic) 25))) := hide ((But.setCell L w 0 _).trans (But.of_below ((Below.refl _ _).alloc (Nat.le_refl _) _)))
  clear ih hin hM hL hsz
  go_enter Tryz.func27, Tryz.ntmps27
  go_wp2_with fail
  have hz1 : w.heap.size < ((w.setCell ⟨L, 0, none⟩ (.int .i64 (n - 1))).alloc (.cells (obox p ka kc ia (flen T) ic) 25)).heap.size := by simp [World.setCell]
  generalize (w.setCell ⟨L, 0, none⟩ (.int .i64 (n - 1))).alloc (.cells (obox p ka kc ia (flen T) ic) 25) = w1 at HL HK HU hz1 ⊢
  clear l0 z0
  have CF : Hid (∀ x, Below w1.heap.size w1 x → Calls Tryz.prog 49 #[ov p ka kc ia (flen T) ic] x fun e w' => e = .returned (.bool (flatV p (flen T))) ∧ Below x.heap.size x w') := hide (fun x hx => fits_any p T ka kc ia ic x (HI.out.sub (HU.out.out_.trans ((onlyA_sub_all _ _).trans (Sub.of_below hx)))))
  have CN := hide (fun x => nests_any p ka kc ia (flen T) ic x)
  have KS : Hid (∀ x, Below w1.heap.size w1 x → x.cell? ⟨L, 0, none⟩ = some (.int .i64 (n - 1)) ∧ x.cell? ⟨w.heap.size, 0, none⟩ = some (.int .i64 p.kind) ∧ x.cell? ⟨w.heap.size, 1, none⟩ = some (.bool p.flag) ∧ x.cell? ⟨w.heap.size, 2, none⟩ = some (.int .i64 p.num) ∧ x.cell? ⟨w.heap.size, 3, none⟩ = some (.string p.text) ∧ x.cell? ⟨w.heap.size, 4, none⟩ = some (.slice ka p.keys.length kc) ∧ x.cell? ⟨w.heap.size, 5, none⟩ = some (.slice ia (flen T) ic)) := hide (fun x hx => ⟨(HL.out.below hx).cell 0, (HK.out.below hx).cell 0, (HK.out.below hx).cell 1, (HK.out.below hx).cell 2, (HK.out.below hx).cell 3, (HK.out.below hx).cell 4, (HK.out.below hx).cell 5⟩)
  have HX : Hid (Below w1.heap.size w1 w1) := hide (Below.refl _ _)
  rename_i k0
  have HKK := hide k0
  clear k0
  have BAD : Hid ((n - 1 < flen T ∨ flatV p (flen T) = false ∨ cont p = true ∧ 32 < deep - 1 + 1) → decide (0 ≤ goodV p T (deep - 1) (65536 - n)) = false) := hide (good_bad h0 h1)
  have RB : Hid (∀ x, Below w1.heap.size w1 x → decide (0 ≤ goodV p T (deep - 1) (65536 - n)) = false → GoodR L w (goodV p T (deep - 1) (65536 - n)) (.returned (.bool false)) x) := hide (fun x hx hg => ⟨by rw [hg], HU.out.trans (But.of_below hx), n - 1, HL.out.below hx, fun h => by rw [decide_eq_false_iff_not] at hg; exact absurd h hg⟩)
  by_cases hA : n - 1 < (flen T : Int)
  · have hA' : decide (n - 1 < (flen T : Int)) = true := by simpa using hA
    have HG := hide (BAD.out (Or.inl hA))
    obtain ⟨v0, v1, v2, v3, v4, v5, v6⟩ := KS.out _ HX.out
    go_quiet (fail)
    all_goals
      refine HKK.out _ _ ?_
      go_wp2_with fail
      go_ret
      exact RB.out _ (below_d5 HX.out (Below.refl _ _) rfl rfl rfl rfl) HG.out
  have hA' : decide (n - 1 < (flen T : Int)) = false := by simpa using hA
  cases hF : flatV p (flen T)
  · rw [hF] at CF
    have HG := hide (BAD.out (Or.inr (Or.inl hF)))
    refine wp_region_held_drew (S := (fun x => x.cell? ⟨L, 0, none⟩ = some (.int .i64 (n - 1)) ∧ x.cell? ⟨w.heap.size, 0, none⟩ = some (.int .i64 p.kind) ∧ x.cell? ⟨w.heap.size, 1, none⟩ = some (.bool p.flag) ∧ x.cell? ⟨w.heap.size, 2, none⟩ = some (.int .i64 p.num) ∧ x.cell? ⟨w.heap.size, 3, none⟩ = some (.string p.text) ∧ x.cell? ⟨w.heap.size, 4, none⟩ = some (.slice ka p.keys.length kc) ∧ x.cell? ⟨w.heap.size, 5, none⟩ = some (.slice ia (flen T) ic))) (by kernel_rfl) (KS.out _ (below_d5 HX.out (Below.refl _ _) rfl rfl rfl rfl)) (fun hHeld => ?_)
    refine takeW (i := 0) (d := 14) (v := .pointer (some ⟨L, 0, none⟩)) rfl rfl (by kernel_rfl) (by kernel_rfl) (by kernel_rfl) (fun _ _ _ h => h) (by rfl) ?_ (by assumption) ?_
    · intro x hSx
      obtain ⟨q0, q1, q2, q3, q4, q5, q6⟩ := hSx
      go_simp
    simp only [Act.put, List.setIfInBounds_toArray, List.set_cons_zero, List.set_cons_succ]
    refine takeW (i := 1) (d := 15) (v := .pointer (some ⟨L, 0, none⟩)) rfl rfl (by kernel_rfl) (by kernel_rfl) (by kernel_rfl) (fun _ _ _ h => h) (by rfl) ?_ (by assumption) ?_
    · intro x hSx
      obtain ⟨q0, q1, q2, q3, q4, q5, q6⟩ := hSx
      go_simp
    simp only [Act.put, List.setIfInBounds_toArray, List.set_cons_zero, List.set_cons_succ]
    refine takeW (i := 2) (d := 16) (v := .int .i64 (n - 1)) rfl rfl (by kernel_rfl) (by kernel_rfl) (by kernel_rfl) (fun _ _ _ h => h) (by rfl) ?_ (by assumption) ?_
    · intro x hSx
      obtain ⟨q0, q1, q2, q3, q4, q5, q6⟩ := hSx
      go_simp
    simp only [Act.put, List.setIfInBounds_toArray, List.set_cons_zero, List.set_cons_succ]
    refine takeW (i := 3) (d := 17) (v := .pointer (some ⟨w.heap.size, 5, none⟩)) rfl rfl (by kernel_rfl) (by kernel_rfl) (by kernel_rfl) (fun _ _ _ h => h) (by rfl) ?_ (by assumption) ?_
    · intro x hSx
      obtain ⟨q0, q1, q2, q3, q4, q5, q6⟩ := hSx
      go_simp
    simp only [Act.put, List.setIfInBounds_toArray, List.set_cons_zero, List.set_cons_succ]
    refine takeW (i := 4) (d := 18) (v := .slice ia (flen T) ic) rfl rfl (by kernel_rfl) (by kernel_rfl) (by kernel_rfl) (fun _ _ _ h => h) (by rfl) ?_ (by assumption) ?_
    · intro x hSx
      obtain ⟨q0, q1, q2, q3, q4, q5, q6⟩ := hSx
      go_simp
    simp only [Act.put, List.setIfInBounds_toArray, List.set_cons_zero, List.set_cons_succ]
    refine takeW (i := 5) (d := 19) (v := .int .i64 (flen T)) rfl rfl (by kernel_rfl) (by kernel_rfl) (by kernel_rfl) (fun _ _ _ h => h) (by rfl) ?_ (by assumption) ?_
    · intro x hSx
      obtain ⟨q0, q1, q2, q3, q4, q5, q6⟩ := hSx
      go_simp
    simp only [Act.put, List.setIfInBounds_toArray, List.set_cons_zero, List.set_cons_succ]
    refine takeW (i := 6) (d := 20) (v := .bool false) rfl rfl (by kernel_rfl) (by kernel_rfl) (by kernel_rfl) (fun _ _ _ h => h) (by rfl) ?_ (by assumption) ?_
    · intro x hSx
      obtain ⟨q0, q1, q2, q3, q4, q5, q6⟩ := hSx
      go_simp
    simp only [Act.put, List.setIfInBounds_toArray, List.set_cons_zero, List.set_cons_succ]
    refine takeW (i := 7) (d := 21) (v := .bool false) rfl rfl (by kernel_rfl) (by kernel_rfl) (by kernel_rfl) (fun _ _ _ h => h) (by rfl) ?_ (by assumption) ?_
    · intro x hSx
      obtain ⟨q0, q1, q2, q3, q4, q5, q6⟩ := hSx
      go_simp
    simp only [Act.put, List.setIfInBounds_toArray, List.set_cons_zero, List.set_cons_succ]
    refine takeW (i := 8) (d := 22) (v := ov p ka kc ia (flen T) ic) rfl rfl (by kernel_rfl) (by kernel_rfl) (by kernel_rfl) (fun _ _ _ h => h) (by rfl) ?_ (by assumption) ?_
    · intro x hSx
      obtain ⟨q0, q1, q2, q3, q4, q5, q6⟩ := hSx
      go_simp
    simp only [Act.put, List.setIfInBounds_toArray, List.set_cons_zero, List.set_cons_succ]
    refine wpAnyH_ready (rs := [9]) (by kernel_rfl) (by simp) ?_
    refine AllReadyH.cons rfl (fun K hK => ?_) AllReadyH.nil
    rw [if_pos (by rfl)]
    go_simp
    go_at_call 49
    refine (CF.out _ ?_).mono ?_
    · exact below_d5 HX.out (Below.refl _ _) rfl rfl rfl rfl
    rintro e wy ⟨rfl, hy⟩
    replace HX := hide (below_d5 HX.out hy rfl rfl rfl rfl)
    clear hy
    refine hK.out _ _ (KS.out _ HX.out) (fun hHeld => ?_)
    clear hK K
    refine takeW (i := 10) (d := 24) (v := .bool true) rfl rfl (by kernel_rfl) (by kernel_rfl) (by kernel_rfl) (fun _ _ _ h => h) (by rfl) ?_ (by assumption) ?_
    · intro x hSx
      obtain ⟨q0, q1, q2, q3, q4, q5, q6⟩ := hSx
      go_simp
    simp only [Act.put, List.setIfInBounds_toArray, List.set_cons_zero, List.set_cons_succ]
    refine takeW (i := 11) (d := 25) (v := .bool true) rfl rfl (by kernel_rfl) (by kernel_rfl) (by kernel_rfl) (fun _ _ _ h => h) (by rfl) ?_ (by assumption) ?_
    · intro x hSx
      obtain ⟨q0, q1, q2, q3, q4, q5, q6⟩ := hSx
      go_simp
    simp only [Act.put, List.setIfInBounds_toArray, List.set_cons_zero, List.set_cons_succ]
    refine takeW (i := 12) (d := 26) (v := .bool true) rfl rfl (by kernel_rfl) (by kernel_rfl) (by kernel_rfl) (fun _ _ _ h => h) (by rfl) ?_ (by assumption) ?_
    · intro x hSx
      obtain ⟨q0, q1, q2, q3, q4, q5, q6⟩ := hSx
      go_simp
    simp only [Act.put, List.setIfInBounds_toArray, List.set_cons_zero, List.set_cons_succ]
    refine takeN (i := 13) (d := 27) rfl rfl (by kernel_rfl) (by kernel_rfl) (by kernel_rfl) (fun _ _ _ h => h) (by rfl) (by assumption) ?_
    simp only [Act.put, List.setIfInBounds_toArray, List.set_cons_zero, List.set_cons_succ]
    refine takeN (i := 14) (d := 28) rfl rfl (by kernel_rfl) (by kernel_rfl) (by kernel_rfl) (fun _ _ _ h => h) (by rfl) (by assumption) ?_
    simp only [Act.put, List.setIfInBounds_toArray, List.set_cons_zero, List.set_cons_succ]
    refine takeN (i := 15) (d := 29) rfl rfl (by kernel_rfl) (by kernel_rfl) (by kernel_rfl) (fun _ _ _ h => h) (by rfl) (by assumption) ?_
    simp only [Act.put, List.setIfInBounds_toArray, List.set_cons_zero, List.set_cons_succ]
    refine takeN (i := 16) (d := 30) rfl rfl (by kernel_rfl) (by kernel_rfl) (by kernel_rfl) (fun _ _ _ h => h) (by rfl) (by assumption) ?_
    simp only [Act.put, List.setIfInBounds_toArray, List.set_cons_zero, List.set_cons_succ]
    refine takeN (i := 17) (d := 31) rfl rfl (by kernel_rfl) (by kernel_rfl) (by kernel_rfl) (fun _ _ _ h => h) (by rfl) (by assumption) ?_
    simp only [Act.put, List.setIfInBounds_toArray, List.set_cons_zero, List.set_cons_succ]
    refine takeN (i := 18) (d := 32) rfl rfl (by kernel_rfl) (by kernel_rfl) (by kernel_rfl) (fun _ _ _ h => h) (by rfl) (by assumption) ?_
    simp only [Act.put, List.setIfInBounds_toArray, List.set_cons_zero, List.set_cons_succ]
    refine takeW (i := 19) (d := 33) (v := .bool true) rfl rfl (by kernel_rfl) (by kernel_rfl) (by kernel_rfl) (fun _ _ _ h => h) (by rfl) ?_ (by assumption) ?_
    · intro x hSx
      obtain ⟨q0, q1, q2, q3, q4, q5, q6⟩ := hSx
      go_simp
    simp only [Act.put, List.setIfInBounds_toArray, List.set_cons_zero, List.set_cons_succ]
    refine wpAnyH_done (by kernel_rfl) ?_ _
    all_goals
      refine HKK.out _ _ ?_
      go_wp2_with fail
      go_ret
      exact RB.out _ (below_d5 HX.out (Below.refl _ _) rfl rfl rfl rfl) HG.out
  rw [hF] at CF
  by_cases hC : cont p = true ∧ 32 < deep - 1 + 1
  · rw [hC.1] at CN
    have hdd : decide ((32 : Int) < deep) = true := by simp; omega
    have HG := hide (BAD.out (Or.inr (Or.inr hC)))
    clear hC
    go_region_held3 (fun x => x.cell? ⟨L, 0, none⟩ = some (.int .i64 (n - 1)) ∧ x.cell? ⟨w.heap.size, 0, none⟩ = some (.int .i64 p.kind) ∧ x.cell? ⟨w.heap.size, 1, none⟩ = some (.bool p.flag) ∧ x.cell? ⟨w.heap.size, 2, none⟩ = some (.int .i64 p.num) ∧ x.cell? ⟨w.heap.size, 3, none⟩ = some (.string p.text) ∧ x.cell? ⟨w.heap.size, 4, none⟩ = some (.slice ka p.keys.length kc) ∧ x.cell? ⟨w.heap.size, 5, none⟩ = some (.slice ia (flen T) ic)) (first | exact KS.out _ (below_d5 HX.out (Below.refl _ _) rfl rfl rfl rfl) | go_keep) ((first | (refine skip_if (by rfl) ?_) | (go_at_call 49; refine (CF.out _ ?_).mono ?_; exact below_d5 HX.out (Below.refl _ _) rfl rfl rfl rfl; rintro e wy ⟨rfl, hy⟩; replace HX := hide (below_d5 HX.out hy rfl rfl rfl rfl); clear hy) | (go_at_call 57; refine (CN.out _).mono ?_; rintro e wy ⟨rfl, hy⟩; replace HX := hide (below_d5 HX.out hy rfl rfl rfl rfl); clear hy)))
    all_goals
      refine HKK.out _ _ ?_
      go_wp2_with fail
      go_ret
      exact RB.out _ (below_d5 HX.out (Below.refl _ _) rfl rfl rfl rfl) HG.out
  have hGL : goodV p T (deep - 1) (65536 - n) = goodF T deep (65536 - (n - 1)) := by
    rw [good_land h0 h1, if_neg (by
      rintro (h | h | h)
      · exact hA h
      · rw [hF] at h; cases h
      · exact hC h), show deep - 1 + 1 = deep by omega]
  have HDP : Hid (0 < flen T → deep ≤ 32) := hide (fun hp => by
    cases hcc : cont p with
    | true =>
      rcases Int.lt_or_le 32 deep with h | h
      · exact absurd ⟨hcc, by omega⟩ hC
      · exact h
    | false => have := flat_noItems hF hcc; omega)
  obtain ⟨G, hG⟩ : ∃ G, goodF T deep (65536 - (n - 1)) = G := ⟨_, rfl⟩
  rw [hG] at hGL
  have HGG := hide hG
  have HGV := hide hGL
  clear BAD RB hG
  obtain ⟨b, off, hia, hrows⟩ := OIn.at_ HI.out
  have HRW := hide hrows
  have HIA := hide hia
  clear hrows hia
  cases hcc : cont p
  · rw [hcc] at CN
    clear hC hcc hF hGL
    refine wp_region_held_drew (S := (fun x => x.cell? ⟨L, 0, none⟩ = some (.int .i64 (n - 1)) ∧ x.cell? ⟨w.heap.size, 0, none⟩ = some (.int .i64 p.kind) ∧ x.cell? ⟨w.heap.size, 1, none⟩ = some (.bool p.flag) ∧ x.cell? ⟨w.heap.size, 2, none⟩ = some (.int .i64 p.num) ∧ x.cell? ⟨w.heap.size, 3, none⟩ = some (.string p.text) ∧ x.cell? ⟨w.heap.size, 4, none⟩ = some (.slice ka p.keys.length kc) ∧ x.cell? ⟨w.heap.size, 5, none⟩ = some (.slice ia (flen T) ic))) (by kernel_rfl) (KS.out _ (below_d5 HX.out (Below.refl _ _) rfl rfl rfl rfl)) (fun hHeld => ?_)
    refine takeW (i := 0) (d := 14) (v := .pointer (some ⟨L, 0, none⟩)) rfl rfl (by kernel_rfl) (by kernel_rfl) (by kernel_rfl) (fun _ _ _ h => h) (by rfl) ?_ (by assumption) ?_
    · intro x hSx
      obtain ⟨q0, q1, q2, q3, q4, q5, q6⟩ := hSx
      go_simp
    simp only [Act.put, List.setIfInBounds_toArray, List.set_cons_zero, List.set_cons_succ]
    refine takeW (i := 1) (d := 15) (v := .pointer (some ⟨L, 0, none⟩)) rfl rfl (by kernel_rfl) (by kernel_rfl) (by kernel_rfl) (fun _ _ _ h => h) (by rfl) ?_ (by assumption) ?_
    · intro x hSx
      obtain ⟨q0, q1, q2, q3, q4, q5, q6⟩ := hSx
      go_simp
    simp only [Act.put, List.setIfInBounds_toArray, List.set_cons_zero, List.set_cons_succ]
    refine takeW (i := 2) (d := 16) (v := .int .i64 (n - 1)) rfl rfl (by kernel_rfl) (by kernel_rfl) (by kernel_rfl) (fun _ _ _ h => h) (by rfl) ?_ (by assumption) ?_
    · intro x hSx
      obtain ⟨q0, q1, q2, q3, q4, q5, q6⟩ := hSx
      go_simp
    simp only [Act.put, List.setIfInBounds_toArray, List.set_cons_zero, List.set_cons_succ]
    refine takeW (i := 3) (d := 17) (v := .pointer (some ⟨w.heap.size, 5, none⟩)) rfl rfl (by kernel_rfl) (by kernel_rfl) (by kernel_rfl) (fun _ _ _ h => h) (by rfl) ?_ (by assumption) ?_
    · intro x hSx
      obtain ⟨q0, q1, q2, q3, q4, q5, q6⟩ := hSx
      go_simp
    simp only [Act.put, List.setIfInBounds_toArray, List.set_cons_zero, List.set_cons_succ]
    refine takeW (i := 4) (d := 18) (v := .slice ia (flen T) ic) rfl rfl (by kernel_rfl) (by kernel_rfl) (by kernel_rfl) (fun _ _ _ h => h) (by rfl) ?_ (by assumption) ?_
    · intro x hSx
      obtain ⟨q0, q1, q2, q3, q4, q5, q6⟩ := hSx
      go_simp
    simp only [Act.put, List.setIfInBounds_toArray, List.set_cons_zero, List.set_cons_succ]
    refine takeW (i := 5) (d := 19) (v := .int .i64 (flen T)) rfl rfl (by kernel_rfl) (by kernel_rfl) (by kernel_rfl) (fun _ _ _ h => h) (by rfl) ?_ (by assumption) ?_
    · intro x hSx
      obtain ⟨q0, q1, q2, q3, q4, q5, q6⟩ := hSx
      go_simp
    simp only [Act.put, List.setIfInBounds_toArray, List.set_cons_zero, List.set_cons_succ]
    refine takeW (i := 6) (d := 20) (v := .bool false) rfl rfl (by kernel_rfl) (by kernel_rfl) (by kernel_rfl) (fun _ _ _ h => h) (by rfl) ?_ (by assumption) ?_
    · intro x hSx
      obtain ⟨q0, q1, q2, q3, q4, q5, q6⟩ := hSx
      go_simp
    simp only [Act.put, List.setIfInBounds_toArray, List.set_cons_zero, List.set_cons_succ]
    refine takeW (i := 7) (d := 21) (v := .bool false) rfl rfl (by kernel_rfl) (by kernel_rfl) (by kernel_rfl) (fun _ _ _ h => h) (by rfl) ?_ (by assumption) ?_
    · intro x hSx
      obtain ⟨q0, q1, q2, q3, q4, q5, q6⟩ := hSx
      go_simp
    simp only [Act.put, List.setIfInBounds_toArray, List.set_cons_zero, List.set_cons_succ]
    refine takeW (i := 8) (d := 22) (v := ov p ka kc ia (flen T) ic) rfl rfl (by kernel_rfl) (by kernel_rfl) (by kernel_rfl) (fun _ _ _ h => h) (by rfl) ?_ (by assumption) ?_
    · intro x hSx
      obtain ⟨q0, q1, q2, q3, q4, q5, q6⟩ := hSx
      go_simp
    simp only [Act.put, List.setIfInBounds_toArray, List.set_cons_zero, List.set_cons_succ]
    refine wpAnyH_ready (rs := [9]) (by kernel_rfl) (by simp) ?_
    refine AllReadyH.cons rfl (fun K hK => ?_) AllReadyH.nil
    rw [if_pos (by rfl)]
    go_simp
    go_at_call 49
    refine (CF.out _ ?_).mono ?_
    · exact below_d5 HX.out (Below.refl _ _) rfl rfl rfl rfl
    rintro e wy ⟨rfl, hy⟩
    replace HX := hide (below_d5 HX.out hy rfl rfl rfl rfl)
    clear hy
    refine hK.out _ _ (KS.out _ HX.out) (fun hHeld => ?_)
    clear hK K
    refine takeW (i := 10) (d := 24) (v := .bool false) rfl rfl (by kernel_rfl) (by kernel_rfl) (by kernel_rfl) (fun _ _ _ h => h) (by rfl) ?_ (by assumption) ?_
    · intro x hSx
      obtain ⟨q0, q1, q2, q3, q4, q5, q6⟩ := hSx
      go_simp
    simp only [Act.put, List.setIfInBounds_toArray, List.set_cons_zero, List.set_cons_succ]
    refine takeW (i := 11) (d := 25) (v := .bool false) rfl rfl (by kernel_rfl) (by kernel_rfl) (by kernel_rfl) (fun _ _ _ h => h) (by rfl) ?_ (by assumption) ?_
    · intro x hSx
      obtain ⟨q0, q1, q2, q3, q4, q5, q6⟩ := hSx
      go_simp
    simp only [Act.put, List.setIfInBounds_toArray, List.set_cons_zero, List.set_cons_succ]
    refine takeW (i := 12) (d := 26) (v := .bool false) rfl rfl (by kernel_rfl) (by kernel_rfl) (by kernel_rfl) (fun _ _ _ h => h) (by rfl) ?_ (by assumption) ?_
    · intro x hSx
      obtain ⟨q0, q1, q2, q3, q4, q5, q6⟩ := hSx
      go_simp
    simp only [Act.put, List.setIfInBounds_toArray, List.set_cons_zero, List.set_cons_succ]
    refine takeW (i := 13) (d := 27) (v := ov p ka kc ia (flen T) ic) rfl rfl (by kernel_rfl) (by kernel_rfl) (by kernel_rfl) (fun _ _ _ h => h) (by rfl) ?_ (by assumption) ?_
    · intro x hSx
      obtain ⟨q0, q1, q2, q3, q4, q5, q6⟩ := hSx
      go_simp
    simp only [Act.put, List.setIfInBounds_toArray, List.set_cons_zero, List.set_cons_succ]
    refine wpAnyH_ready (rs := [14]) (by kernel_rfl) (by simp) ?_
    refine AllReadyH.cons rfl (fun K hK => ?_) AllReadyH.nil
    rw [if_pos (by rfl)]
    go_simp
    go_at_call 57
    refine (CN.out _).mono ?_
    rintro e wy ⟨rfl, hy⟩
    replace HX := hide (below_d5 HX.out hy rfl rfl rfl rfl)
    clear hy
    refine hK.out _ _ (KS.out _ HX.out) (fun hHeld => ?_)
    clear hK K
    refine takeW (i := 15) (d := 29) (v := .bool false) rfl rfl (by kernel_rfl) (by kernel_rfl) (by kernel_rfl) (fun _ _ _ h => h) (by rfl) ?_ (by assumption) ?_
    · intro x hSx
      obtain ⟨q0, q1, q2, q3, q4, q5, q6⟩ := hSx
      go_simp
    simp only [Act.put, List.setIfInBounds_toArray, List.set_cons_zero, List.set_cons_succ]
    refine takeN (i := 16) (d := 30) rfl rfl (by kernel_rfl) (by kernel_rfl) (by kernel_rfl) (fun _ _ _ h => h) (by rfl) (by assumption) ?_
    simp only [Act.put, List.setIfInBounds_toArray, List.set_cons_zero, List.set_cons_succ]
    refine takeN (i := 17) (d := 31) rfl rfl (by kernel_rfl) (by kernel_rfl) (by kernel_rfl) (fun _ _ _ h => h) (by rfl) (by assumption) ?_
    simp only [Act.put, List.setIfInBounds_toArray, List.set_cons_zero, List.set_cons_succ]
    refine takeW (i := 18) (d := 32) (v := .bool false) rfl rfl (by kernel_rfl) (by kernel_rfl) (by kernel_rfl) (fun _ _ _ h => h) (by rfl) ?_ (by assumption) ?_
    · intro x hSx
      obtain ⟨q0, q1, q2, q3, q4, q5, q6⟩ := hSx
      go_simp
    simp only [Act.put, List.setIfInBounds_toArray, List.set_cons_zero, List.set_cons_succ]
    refine takeW (i := 19) (d := 33) (v := .bool false) rfl rfl (by kernel_rfl) (by kernel_rfl) (by kernel_rfl) (fun _ _ _ h => h) (by rfl) ?_ (by assumption) ?_
    · intro x hSx
      obtain ⟨q0, q1, q2, q3, q4, q5, q6⟩ := hSx
      go_simp
    simp only [Act.put, List.setIfInBounds_toArray, List.set_cons_zero, List.set_cons_succ]
    refine wpAnyH_done (by kernel_rfl) ?_ _
    refine HKK.out _ _ ?_
    obtain ⟨v0, v1, v2, v3, v4, v5, v6⟩ := KS.out _ (below_d5 HX.out (Below.refl _ _) rfl rfl rfl rfl)
    go_wp2_with fail
    have HW0 := hide (below_d5 HX.out (Below.refl _ _) rfl rfl rfl rfl)
    clear v0 v1 v2 v3 v4 v5 v6
    go_loopw [37] (fun vi wr => ∃ (k : Nat) (m : Int) (U : BT Pay), vi = .int .i64 k ∧ Hid (flen U + k = flen T ∧ fsize U ≤ fsize T ∧ Rows (out_ L w) U b (off + k * 6) ∧ 0 ≤ m ∧ m ≤ 65536 ∧ goodF U deep (65536 - m) = G ∧ But L w wr ∧ Blk wr L #[.int .i64 m] 3)) (fun vi _ => flen T - (intOf vi).toNat)
    case atStart => exact ⟨0, n - 1, T, rfl, hide ⟨by omega, Nat.le_refl _, by simpa using HRW.out, by omega, by omega, HGG.out, HU.out.trans (But.of_below (below_d5 HX.out (Below.refl _ _) rfl rfl rfl rfl)), HL.out.below (below_d5 HX.out (Below.refl _ _) rfl rfl rfl rfl)⟩⟩
    case round =>
      clear HW0 HX
      obtain ⟨k, m, U, rfl, HV⟩ := hrel
      obtain ⟨hk, hu, hrow, hm0, hm1, hg, hbut, hkL⟩ := HV.out
      clear HV
      have HBU := hide hbut
      have HKL := hide hkL
      have hkk : (0 : Int) ≤ (k : Int) := by omega
      cases U with
      | nil =>
        have hk' : ¬ k < flen T := by simp [flen] at hk; omega
        have hmg : 65536 - m = G := hg
        have HF : Hid (GoodR L w G (.returned (.bool true)) wr) := hide ⟨by rw [decide_eq_true (by omega)], hbut, m, hkL, fun _ => by omega⟩
        clear hk hrow hg hbut hkL hu hmg
        go_wp2_with fail
        go_ret
        rw [HGV.out]
        exact HF.out
      | node b0 o0 q TT N =>
        obtain ⟨⟨ka', kc', ia', ic', g6, gin⟩, grest⟩ := rows_node.1 hrow
        obtain rfl | ⟨rfl, hbz⟩ := HIA.out
        · simp [flen] at hk
        have hlt' : k < flen T := by simp [flen] at hk; omega
        have hst : fsize TT < M := by have := HM.out; simp [fsize] at hu; omega
        have hdp : deep ≤ 32 := HDP.out (by omega)
        have hs1 : Sub (out_ L w) wr := hbut.out_.trans (onlyA_sub_all _ _)
        obtain ⟨c0, c1, c2, c3, c4, c5⟩ := g6.sub hs1
        have hbA := hbut.trans (But.of_below (b := L) ((Below.refl wr.heap.size wr).alloc (Nat.le_refl _) (.cells (obox q ka' kc' ia' (flen TT) ic') 25)))
        have CI := IH.out q TT ka' kc' ia' ic' (deep + 1) m L _ hst (gin.sub hbA.out_) (by omega) (by omega) hm0 hm1 (hkL.below ((Below.refl wr.heap.size wr).alloc (Nat.le_refl _) (.cells (obox q ka' kc' ia' (flen TT) ic') 25)))
        have hle := goodV_le q TT deep (65536 - m) (by omega) (by omega)
        rw [goodF_node] at hg
        rw [show deep + 1 - 1 = deep by omega] at CI
        generalize goodV q TT deep (65536 - m) = r at CI hg hle
        have CI := hide CI
        have HG2 := hide hg
        have HBA := hide hbA
        have HK2 := hide (show flen N + (k + 1) = flen T ∧ fsize N ≤ fsize T by simp [flen, fsize] at hk hu; omega)
        have HRR := hide grest
        clear hk hu hrow hg hbut hkL g6 gin grest hs1 hbA
        by_cases hr : 0 ≤ r
        · have hr' : decide (0 ≤ r) = true := decide_eq_true hr
          unfold GoodR at CI
          rw [hr'] at CI
          go_wp2_with (go_at_call 27; refine CI.out.mono ?_; rintro e wy ⟨rfl, hyb, n', hyk, hn'⟩; have HY := hide hyb; have HYK := hide hyk; have HN := hide (hn' hr); clear hyb hyk hn')
          go_roundw
          case rel => exact ⟨k + 1, n', N, by go_num, hide ⟨HK2.out.1, HK2.out.2, by have := HRR.out; rw [show off + (k + 1) * 6 = off + k * 6 + 6 by omega]; exact this, by have := HN.out; omega, by have := HN.out; omega, by have := HG2.out; rw [if_neg (by omega)] at this; rw [HN.out, show 65536 - (65536 - r) = r by omega]; exact this, HBA.out.trans HY.out, HYK.out⟩⟩
          case measure => simp [intOf]; omega
        · have hr' : decide (0 ≤ r) = false := decide_eq_false hr
          unfold GoodR at CI
          rw [hr'] at CI
          go_wp2_with (go_at_call 27; refine CI.out.mono ?_; rintro e wy ⟨rfl, hyb, n', hyk, hn'⟩; have HY := hide hyb; have HYK := hide hyk; clear hyb hyk hn')
          go_ret
          have hG : G = -1 := by have := HG2.out; rw [if_pos (by omega)] at this; exact this.symm
          rw [HGV.out]
          exact ⟨congrArg (fun b => Ending.returned (.bool b)) (decide_eq_false (show ¬ (0 : Int) ≤ G by omega)).symm, HBA.out.trans HY.out, n', HYK.out, fun h => absurd h (by omega)⟩
  · rw [hcc] at CN
    have hdd : decide ((32 : Int) < deep) = false := by
      rw [decide_eq_false_iff_not]
      exact fun h => hC ⟨hcc, by omega⟩
    clear hC hcc hF hGL
    go_region_held3 (fun x => x.cell? ⟨L, 0, none⟩ = some (.int .i64 (n - 1)) ∧ x.cell? ⟨w.heap.size, 0, none⟩ = some (.int .i64 p.kind) ∧ x.cell? ⟨w.heap.size, 1, none⟩ = some (.bool p.flag) ∧ x.cell? ⟨w.heap.size, 2, none⟩ = some (.int .i64 p.num) ∧ x.cell? ⟨w.heap.size, 3, none⟩ = some (.string p.text) ∧ x.cell? ⟨w.heap.size, 4, none⟩ = some (.slice ka p.keys.length kc) ∧ x.cell? ⟨w.heap.size, 5, none⟩ = some (.slice ia (flen T) ic)) (first | exact KS.out _ (below_d5 HX.out (Below.refl _ _) rfl rfl rfl rfl) | go_keep) ((first | (go_at_call 49; refine (CF.out _ ?_).mono ?_; exact below_d5 HX.out (Below.refl _ _) rfl rfl rfl rfl; rintro e wy ⟨rfl, hy⟩; replace HX := hide (below_d5 HX.out hy rfl rfl rfl rfl); clear hy) | (go_at_call 57; refine (CN.out _).mono ?_; rintro e wy ⟨rfl, hy⟩; replace HX := hide (below_d5 HX.out hy rfl rfl rfl rfl); clear hy)))
    refine HKK.out _ _ ?_
    obtain ⟨v0, v1, v2, v3, v4, v5, v6⟩ := KS.out _ (below_d5 HX.out (Below.refl _ _) rfl rfl rfl rfl)
    go_wp2_with fail
    have HW0 := hide (below_d5 HX.out (Below.refl _ _) rfl rfl rfl rfl)
    clear v0 v1 v2 v3 v4 v5 v6
    go_loopw [37] (fun vi wr => ∃ (k : Nat) (m : Int) (U : BT Pay), vi = .int .i64 k ∧ Hid (flen U + k = flen T ∧ fsize U ≤ fsize T ∧ Rows (out_ L w) U b (off + k * 6) ∧ 0 ≤ m ∧ m ≤ 65536 ∧ goodF U deep (65536 - m) = G ∧ But L w wr ∧ Blk wr L #[.int .i64 m] 3)) (fun vi _ => flen T - (intOf vi).toNat)
    case atStart => exact ⟨0, n - 1, T, rfl, hide ⟨by omega, Nat.le_refl _, by simpa using HRW.out, by omega, by omega, HGG.out, HU.out.trans (But.of_below (below_d5 HX.out (Below.refl _ _) rfl rfl rfl rfl)), HL.out.below (below_d5 HX.out (Below.refl _ _) rfl rfl rfl rfl)⟩⟩
    case round =>
      clear HW0 HX
      obtain ⟨k, m, U, rfl, HV⟩ := hrel
      obtain ⟨hk, hu, hrow, hm0, hm1, hg, hbut, hkL⟩ := HV.out
      clear HV
      have HBU := hide hbut
      have HKL := hide hkL
      have hkk : (0 : Int) ≤ (k : Int) := by omega
      cases U with
      | nil =>
        have hk' : ¬ k < flen T := by simp [flen] at hk; omega
        have hmg : 65536 - m = G := hg
        have HF : Hid (GoodR L w G (.returned (.bool true)) wr) := hide ⟨by rw [decide_eq_true (by omega)], hbut, m, hkL, fun _ => by omega⟩
        clear hk hrow hg hbut hkL hu hmg
        go_wp2_with fail
        go_ret
        rw [HGV.out]
        exact HF.out
      | node b0 o0 q TT N =>
        obtain ⟨⟨ka', kc', ia', ic', g6, gin⟩, grest⟩ := rows_node.1 hrow
        obtain rfl | ⟨rfl, hbz⟩ := HIA.out
        · simp [flen] at hk
        have hlt' : k < flen T := by simp [flen] at hk; omega
        have hst : fsize TT < M := by have := HM.out; simp [fsize] at hu; omega
        have hdp : deep ≤ 32 := HDP.out (by omega)
        have hs1 : Sub (out_ L w) wr := hbut.out_.trans (onlyA_sub_all _ _)
        obtain ⟨c0, c1, c2, c3, c4, c5⟩ := g6.sub hs1
        have hbA := hbut.trans (But.of_below (b := L) ((Below.refl wr.heap.size wr).alloc (Nat.le_refl _) (.cells (obox q ka' kc' ia' (flen TT) ic') 25)))
        have CI := IH.out q TT ka' kc' ia' ic' (deep + 1) m L _ hst (gin.sub hbA.out_) (by omega) (by omega) hm0 hm1 (hkL.below ((Below.refl wr.heap.size wr).alloc (Nat.le_refl _) (.cells (obox q ka' kc' ia' (flen TT) ic') 25)))
        have hle := goodV_le q TT deep (65536 - m) (by omega) (by omega)
        rw [goodF_node] at hg
        rw [show deep + 1 - 1 = deep by omega] at CI
        generalize goodV q TT deep (65536 - m) = r at CI hg hle
        have CI := hide CI
        have HG2 := hide hg
        have HBA := hide hbA
        have HK2 := hide (show flen N + (k + 1) = flen T ∧ fsize N ≤ fsize T by simp [flen, fsize] at hk hu; omega)
        have HRR := hide grest
        clear hk hu hrow hg hbut hkL g6 gin grest hs1 hbA
        by_cases hr : 0 ≤ r
        · have hr' : decide (0 ≤ r) = true := decide_eq_true hr
          unfold GoodR at CI
          rw [hr'] at CI
          go_wp2_with (go_at_call 27; refine CI.out.mono ?_; rintro e wy ⟨rfl, hyb, n', hyk, hn'⟩; have HY := hide hyb; have HYK := hide hyk; have HN := hide (hn' hr); clear hyb hyk hn')
          go_roundw
          case rel => exact ⟨k + 1, n', N, by go_num, hide ⟨HK2.out.1, HK2.out.2, by have := HRR.out; rw [show off + (k + 1) * 6 = off + k * 6 + 6 by omega]; exact this, by have := HN.out; omega, by have := HN.out; omega, by have := HG2.out; rw [if_neg (by omega)] at this; rw [HN.out, show 65536 - (65536 - r) = r by omega]; exact this, HBA.out.trans HY.out, HYK.out⟩⟩
          case measure => simp [intOf]; omega
        · have hr' : decide (0 ≤ r) = false := decide_eq_false hr
          unfold GoodR at CI
          rw [hr'] at CI
          go_wp2_with (go_at_call 27; refine CI.out.mono ?_; rintro e wy ⟨rfl, hyb, n', hyk, hn'⟩; have HY := hide hyb; have HYK := hide hyk; clear hyb hyk hn')
          go_ret
          have hG : G = -1 := by have := HG2.out; rw [if_pos (by omega)] at this; exact this.symm
          rw [HGV.out]
          exact ⟨congrArg (fun b => Ending.returned (.bool b)) (decide_eq_false (show ¬ (0 : Int) ≤ G by omega)).symm, HBA.out.trans HY.out, n', HYK.out, fun h => absurd h (by omega)⟩
theorem ogood_core : ∀ (M : Nat) (p : Pay) (T : BT Pay) (ka : Option Addr) (kc : Nat) (ia : Option Addr) (ic : Nat) (deep n : Int) (L : Nat) (w : World), fsize T < M → OIn (out_ L w) p T ka kc ia ic → 1 ≤ deep → deep ≤ 33 → 0 ≤ n → n ≤ 65536 → Blk w L #[.int .i64 n] 3 →
      Calls Tryz.prog 27 #[ov p ka kc ia (flen T) ic, .int .i64 deep, .pointer (some ⟨L, 0, none⟩)] w fun e w' => GoodR L w (goodV p T (deep - 1) (65536 - n)) e w'
  | 0 => fun _ _ _ _ _ _ _ _ _ _ h => absurd h (Nat.not_lt_zero _)
  | M + 1 => fun p T ka kc ia ic deep n L w hM hin a b c d e => ogood_step M (ogood_core M) p T ka kc ia ic deep n L w (by omega) hin a b c d e
theorem oGood_any (p : Pay) (T : BT Pay) (ka : Option Addr) (kc : Nat) (ia : Option Addr) (ic : Nat) (w : World) (hin : OIn w p T ka kc ia ic) :
    Calls Tryz.prog 16 #[ov p ka kc ia (flen T) ic] w fun e w' => e = .returned (.bool (decide (0 < goodV p T 0 0))) ∧ Below w.heap.size w w' := by
  have hb : Below w.heap.size w ((w.alloc (.cells (obox p ka kc ia (flen T) ic) 25)).alloc (.cells #[.int .i64 65536] 3)) := ((Below.refl w.heap.size w).alloc (Nat.le_refl _) _).alloc (by simp) _
  have hk : Blk ((w.alloc (.cells (obox p ka kc ia (flen T) ic) 25)).alloc (.cells #[.int .i64 65536] 3)) (w.heap.size + 1) #[.int .i64 65536] 3 := by
    have := Blk.new (w.alloc (.cells (obox p ka kc ia (flen T) ic) 25)) #[.int .i64 65536] 3
    rwa [show (w.alloc (.cells (obox p ka kc ia (flen T) ic) 25)).heap.size = w.heap.size + 1 by simp] at this
  have hs : Sub w (out_ (w.heap.size + 1) ((w.alloc (.cells (obox p ka kc ia (flen T) ic) 25)).alloc (.cells #[.int .i64 65536] 3))) := by
    refine ⟨by rw [onlyA_size]; exact hb.size, fun q v hv => ?_⟩
    have hq : q.block < w.heap.size := by
      rcases Nat.lt_or_ge q.block w.heap.size with hl | hl
      · exact hl
      · unfold World.cell? at hv; rw [Array.getElem?_eq_none hl] at hv; cases hv
    exact sub_onlyA (S := fun k => k ≠ w.heap.size + 1) (by omega) ((hb.cell hq).trans hv)
  have C := hide (ogood_core _ p T ka kc ia ic 1 65536 (w.heap.size + 1) _ (Nat.lt_succ_self _) (hin.sub hs) (by omega) (by omega) (by omega) (by omega) hk)
  have e0 : decide (0 < goodV p T 0 0) = decide (0 ≤ goodV p T 0 0) := by
    have := goodV_le p T 0 0 (by omega) (by omega)
    have h2 : goodV p T 0 0 ≠ 0 := by
      intro h
      have h3 : (0 : Int) ≤ goodV p T 0 0 := by omega
      unfold goodV gV at h
      split at h
      · omega
      · split at h
        · split at h
          · omega
          · have := goodF_ge T (0 + 1) (0 + 1) (by omega) (by omega); omega
        · have := goodF_ge T 0 (0 + 1) (by omega) (by omega); omega
    rw [Bool.eq_iff_iff, decide_eq_true_iff, decide_eq_true_iff]
    omega
  rw [e0]
  unfold GoodR at C
  rw [show (1 : Int) - 1 = 0 by omega, show (65536 : Int) - 65536 = 0 by omega] at C
  generalize goodV p T 0 0 = g at C
  have HB := hide hb
  clear hin hs hk hb e0
  go_enter Tryz.func16, Tryz.ntmps16
  go_wp2_with (go_at_call 27; refine C.out.mono ?_; rintro e wy ⟨rfl, hyb, n', hyk, hn'⟩; have HY := hide hyb; clear hyb hyk hn')
  go_ret
  exact ⟨rfl, HY.out.below HB.out (by omega)⟩
end Go.Proofs.YtalmcdbdibpgkaaGreatDoor
/-
  Bytes appended to a row that the call owns; what the landed appendHex answers.
-/
namespace Go.Proofs.YtalmcdbdibpgkaaGreatDoor
open Go.RowKit Go.Deep

theorem bcells_one (l : List UInt8) : ∀ u ∈ l.map bcell, u.oneCell' = true := fun u hu => by
  obtain ⟨_, _, rfl⟩ := List.mem_map.1 hu
  rfl
theorem app_b {W : World} {B : Nat} {v : Value} {ys : List UInt8} (news : List UInt8) (h : BRow W B v ys) (hB : B ≤ W.heap.size) (hm : 0 < news.length) (hl : ys.length + news.length ≤ 140737488355328) (H : Nat) (hH : W.heap.size = H) :
    ∃ v' w2, (Builtin.append_ #[43, 43] 43 #[v, .slice (some ⟨H, 0, none⟩) news.length news.length]).run Tryz.prog (W.alloc (.cells (news.map bcell).toArray 5)) = .ok v' w2 ∧
      BRow w2 B v' (ys ++ news) ∧ Below B W w2 := by
  obtain ⟨i0, hi, hz0, hz1, hz2⟩ := info_parts5 info_u8
  subst hH
  obtain ⟨g, cap, w2, hr, ho, hg, _, _⟩ := run_append_lies (P := Tryz.prog) (W.alloc (.cells (news.map bcell).toArray 5)) 43 43 B 5 i0 _ 1 1 Tryz.underlying43 hi hz0 hz1 hz2 rfl (by decide) v ys.length (ys.map bcell) (World.ownsRow.alloc h _) ⟨W.heap.size, 0, none⟩ news.length news.length (news.map bcell) (by simp)
    (fun j u hu => by rw [Go.WideShapes.add_plain, Nat.zero_add, World.cell?_alloc_at _ _ _ _ rfl]; simpa using hu) (bcells_one _) hm (by unfold maxLen; omega) (by omega) (by simp; omega) (W.heap.size + 1) (by simp)
  refine ⟨_, w2, hr, ?_, ((Below.refl B W).alloc hB _).grown hg (by simp; omega) fun k hk' => (World.ownsRow.lt h k hk').1⟩
  unfold BRow
  rw [List.map_append, List.length_append]
  exact ho
def upD (n : Nat) : UInt8 := UInt8.ofNat (if n < 10 then 48 + n else 55 + n)
def hexT (c : UInt8) : List UInt8 := [upD (c.toNat / 16), upD (c.toNat % 16)]
abbrev hexS : ByteArray := ⟨#[48, 49, 50, 51, 52, 53, 54, 55, 56, 57, 65, 66, 67, 68, 69, 70]⟩
theorem hexS_at : ∀ n : Fin 16, hexS[n.val]'(by have := n.isLt; exact this) = upD n.val := by decide
theorem and15 : ∀ n : Fin 256, bits BinOp.and IntKind.u8 (n.val : Int) 15 = ((n.val % 16 : Nat) : Int) := by decide +kernel
set_option maxRecDepth 8000 in
set_option maxHeartbeats 4000000 in
theorem appendHex_any (v : Value) (ys : List UInt8) (B : Nat) (c : UInt8) (w : World) (h : BRow w B v ys) (hB : B ≤ w.heap.size) (hl : ys.length + 2 ≤ 140737488355328) :
    Calls Tryz.prog 64 #[v, .int .u8 (c.toNat : Int)] w fun e w' => ∃ v', e = .returned v' ∧ BRow w' B v' (ys ++ hexT c) ∧ Below B w w' := by
  obtain ⟨a, ha⟩ : ∃ a, c.toNat / 16 = a := ⟨_, rfl⟩
  obtain ⟨b, hb⟩ : ∃ b, c.toNat % 16 = b := ⟨_, rfl⟩
  have b1 : a < hexS.size := by have := c.toNat_lt; show _ < 16; omega
  have b2 : b < hexS.size := by show _ < 16; omega
  have e : [hexS[a]'b1, hexS[b]'b2] = hexT c := by
    unfold hexT
    rw [ha, hb, ← hexS_at ⟨a, b1⟩, ← hexS_at ⟨b, b2⟩]
  rw [← e]
  obtain ⟨v', w2, hr, hb2, hw2⟩ := app_b (W := w.drew) [hexS[a]'b1, hexS[b]'b2] h hB (by simp) (by simpa using hl) _ rfl
  have q1 : (c.toNat : Int) / 16 = (a : Int) := by omega
  have q2 : (c.toNat : Int) % 16 = (b : Int) := by omega
  have q3 : bits BinOp.and IntKind.u8 (c.toNat : Int) 15 = (b : Int) := by rw [and15 ⟨c.toNat, c.toNat_lt⟩, ← hb]
  have g1 : (0 : Int) ≤ (a : Int) := by omega
  have g2 : (a : Int) < 16 := by have : a < 16 := b1; omega
  have g3 : (0 : Int) ≤ (b : Int) := by omega
  have g4 : (b : Int) < 16 := by have : b < 16 := b2; omega
  have HR := hide hr
  clear hr e ha hb
  go_enter Tryz.func64, Tryz.ntmps64
  go_wp2_with fail
  go_region_held3 (fun _ => True) (first | trivial | go_keep) ((first | (refine step_append_run _ (by rfl) _ _ _ _ (by rfl) _ _ (by rfl) (by rfl) _ _ HR.out ?_)))
  all_goals
    go_wp2_with fail
    go_ret
    exact ⟨_, rfl, hb2, ⟨hw2.os, hw2.tape, hw2.output, hw2.size, hw2.block⟩⟩
/- a name's text -/
def nchT (c : UInt8) : List UInt8 := if isPl c.toNat then [c] else 35 :: hexT c
def nameT (l : List UInt8) : List UInt8 := 47 :: l.flatMap nchT
theorem nchT_len (c : UInt8) : (nchT c).length ≤ 3 := by unfold nchT hexT; split <;> simp
theorem nameT_take (s : ByteArray) (k : Nat) (h : k < s.size) : (s.data.toList.take (k + 1)).flatMap nchT = (s.data.toList.take k).flatMap nchT ++ nchT s[k] := by
  rw [take_at s k h, List.flatMap_append]
  simp
theorem flat_len (l : List UInt8) : (l.flatMap nchT).length ≤ 3 * l.length := by
  induction l with
  | nil => simp
  | cons c l ih => have := nchT_len c; simp only [List.flatMap_cons, List.length_append, List.length_cons]; omega
set_option maxRecDepth 8000 in
set_option maxHeartbeats 4000000 in
theorem appendName_any (v : Value) (ys : List UInt8) (B : Nat) (s : ByteArray) (w : World) (h : BRow w B v ys) (hB : B ≤ w.heap.size) (hl : ys.length + 3 * s.size + 1 ≤ 140737488355328) :
    Calls Tryz.prog 32 #[v, .string s] w fun e w' => ∃ v', e = .returned v' ∧ BRow w' B v' (ys ++ nameT s.data.toList) ∧ Below B w w' := by
  obtain ⟨v1, w1, hr, hb1, hw1⟩ := app_b (W := w) [47] h hB (by simp) (by simp; omega) _ rfl
  have HR := hide hr
  have HB1 := hide hb1
  have HW1 := hide hw1
  have hsz : (s.size : Int) ≤ 9223372036854775807 := by omega
  have HLL := hide hl
  have HBB := hide hB
  clear hr hb1 hw1 hl
  go_enter Tryz.func32, Tryz.ntmps32
  go_wp2_with (at_builtin; refine Lib.wpList_append_run _ rfl _ _ _ _ rfl _ _ rfl rfl _ _ HR.out ?_)
  go_loopw [0, 11] (fun vt vi wr => ∃ k : Nat, vi = .int .i64 k ∧ Hid (k ≤ s.size ∧ BRow wr B vt (ys ++ 47 :: (s.data.toList.take k).flatMap nchT) ∧ Below B w wr ∧ B ≤ wr.heap.size)) (fun _ vi _ => s.size - (intOf vi).toNat)
  case atStart => exact ⟨0, rfl, hide ⟨Nat.zero_le _, by simpa using HB1.out, HW1.out, Nat.le_trans HBB.out HW1.out.size⟩⟩
  case round =>
    clear HB1 HW1 HR
    obtain ⟨k, rfl, HV⟩ := hrel
    obtain ⟨hk, hbr, hbel, hBr⟩ := HV.out
    clear HV
    have HBL := hide hbel
    have HBR := hide hbr
    have hk0 : (0 : Int) ≤ (k : Int) := by omega
    by_cases hlt : k < s.size
    case neg =>
      have hks : k = s.size := by omega
      have HF : Hid (BRow wr B u0 (ys ++ nameT s.data.toList)) := hide (by
        have := hbr
        rw [List.take_of_length_le (by rw [← Lib.size_eq]; omega)] at this
        exact this)
      clear hk hbr hbel hks
      go_wp2_with fail
      go_ret
      exact ⟨_, rfl, HF.out, HBL.out⟩
    case pos =>
      have hlen : (ys ++ 47 :: (s.data.toList.take k).flatMap nchT).length + 3 ≤ 140737488355328 := by
        have := flat_len (s.data.toList.take k)
        have := HLL.out
        simp only [List.length_append, List.length_cons, List.length_take] at *
        omega
      have C := hide (fun w => plain_any s[k].toNat w (UInt8.toNat_lt _))
      have hst := nameT_take s k hlt
      have HLN := hide hlen
      cases hp : isPl s[k].toNat
      · rw [hp] at C
        have hn : nchT s[k] = 35 :: hexT s[k] := by unfold nchT; rw [hp]; rfl
        rw [hn] at hst
        obtain ⟨v2, w2, hr2, hb2, hw2⟩ := app_b (W := wr.drew) [35] (B := B) hbr hBr (by simp) (by simp only [List.length_singleton]; omega) _ rfl
        have HR2 := hide hr2
        have CH := hide (appendHex_any _ _ B s[k] w2 hb2 (Nat.le_trans hBr hw2.size) (by simp only [List.length_append, List.length_cons, List.length_nil] at hlen ⊢; omega))
        have HW2 := hide (show Below B wr w2 from ⟨hw2.os, hw2.tape, hw2.output, hw2.size, hw2.block⟩)
        have HST := hide hst
        clear hk hbr hbel hlen hst hp hn hr2 hb2 hw2
        go_wp2_with (go_at_call 63; refine (C.out _).mono ?_; rintro e w1 ⟨rfl, rfl⟩)
        rename_i k0
        have HKK := hide k0
        clear k0
        go_region_law ((first | (go_simp; go_at_call 64; refine CH.out.mono ?_; rintro e wy ⟨v3, rfl, hb3, hw3⟩; have HB3 := hide hb3; have HW3 := hide hw3; clear hb3 hw3) | (refine step_append_run _ (by rfl) _ _ _ _ rfl _ _ (by rfl) (by rfl) _ _ HR2.out ?_)))
        all_goals
          refine HKK.out _ _ ?_
          go_wp2_with fail
          go_roundw
          case rel => exact ⟨k + 1, by go_num, hide ⟨by omega, by rw [HST.out]; have := HB3.out; simpa using this, (HBL.out.trans HW2.out).trans HW3.out, Nat.le_trans (Nat.le_trans hBr HW2.out.size) HW3.out.size⟩⟩
          case measure => simp [intOf]; omega
      · rw [hp] at C
        have hn : nchT s[k] = [s[k]] := by unfold nchT; rw [hp]; rfl
        rw [hn] at hst
        obtain ⟨v2, w2, hr2, hb2, hw2⟩ := app_b (W := wr) [s[k]] (B := B) hbr hBr (by simp) (by simp only [List.length_singleton]; omega) _ rfl
        have HR2 := hide hr2
        have HB2 := hide hb2
        have HW2 := hide hw2
        have HST := hide hst
        clear hk hbr hbel hlen hst hp hn hr2 hb2 hw2
        go_wp2_with (first | (go_at_call 63; refine (C.out _).mono ?_; rintro e w1 ⟨rfl, rfl⟩) | (at_builtin; refine Lib.wpList_append_run _ rfl _ _ _ _ rfl _ _ rfl rfl _ _ HR2.out ?_))
        go_roundw
        case rel => exact ⟨k + 1, by go_num, hide ⟨by omega, by rw [HST.out]; have := HB2.out; simpa using this, HBL.out.trans HW2.out, Nat.le_trans hBr HW2.out.size⟩⟩
        case measure => simp [intOf]; omega
end Go.Proofs.YtalmcdbdibpgkaaGreatDoor
