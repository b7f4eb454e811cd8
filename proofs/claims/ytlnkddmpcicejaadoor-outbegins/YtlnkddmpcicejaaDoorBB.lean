/-
  Joined: O5Sm, O5Same, O5Sam, O5Keys, O5Fit.
-/
import Derived.Test.YtlnkddmpcicejaaDoorBA
import Derived.Test.YtlnkddmpcicejaaDoorShelf
import Derived.WalkLawsBesides
import Derived.Lib.IndexLaws
import Derived.Deep.RegionHeld3
import Derived.Deep.QuietTactic
import Derived.Deep.Draws
import Derived.BigQuiet
import Derived.Maps.OwnSet
import Derived.StringKeys
/-
  What the landed small functions answer: isBlank, isDelimiter, isPlain, isName, nests, must.
-/
namespace Go.Proofs.YtlnkddmpcicejaaDoor
open Go.RowKit Go.Deep

theorem delim_idx : ∀ b : Fin 256, decide (0 ≤ Lib.indexByte [40, 41, 60, 62, 91, 93, 123, 125, 47, 37] b.val.toUInt8) = isDl b.val := by decide +kernel
theorem odelim_any (b : Nat) (w : World) (h : b < 256) :
    Calls Tryd.prog 63 #[.int .u8 b] w fun e w' => e = .returned (.bool (isDl b)) ∧ w' = w := by
  have C := hide (Any.strings_IndexByte lays137 ⟨#[40, 41, 60, 62, 91, 93, 123, 125, 47, 37]⟩ (b : Int) w)
  have hd := delim_idx ⟨b, h⟩
  simp only at hd
  rw [show ((b : Int).toNat.toUInt8) = b.toUInt8 by simp] at C
  obtain ⟨I, hI⟩ : ∃ I, Lib.indexByte [40, 41, 60, 62, 91, 93, 123, 125, 47, 37] b.toUInt8 = I := ⟨_, rfl⟩
  rw [hI] at hd
  rw [← hd]
  have C : Hid (Calls Tryd.prog 69 #[.string ⟨#[40, 41, 60, 62, 91, 93, 123, 125, 47, 37]⟩, .int .u8 b] w fun e w' => e = .returned (.int .i64 I) ∧ w' = w) := hide (by rw [← hI]; exact C.out)
  clear hd hI
  go_enter Tryd.func63, Tryd.ntmps63
  go_wp2_with (go_at_call 69; refine C.out.mono ?_; rintro e w1 ⟨rfl, rfl⟩)
  go_ret
  exact ⟨rfl, rfl⟩
def isPl (b : Nat) : Bool := decide (32 < b) && decide (b ≤ 126) && decide (b ≠ 35) && !isDl b
theorem plain_any (b : Nat) (w : World) (h : b < 256) :
    Calls Tryd.prog 52 #[.int .u8 b] w fun e w' => e = .returned (.bool (isPl b)) ∧ w' = w := by
  have C := hide (fun w => odelim_any b w h)
  unfold isPl
  generalize isDl b = D at C
  have e1 : decide (32 < b) = decide ((32 : Int) < (b : Int)) := by simp; omega
  have e2 : decide (b ≤ 126) = decide ((b : Int) ≤ 126) := by simp; omega
  have e3 : decide (b ≠ 35) = ((b : Int) != 35) := by rw [Bool.eq_iff_iff]; simp; omega
  rw [e1, e2, e3]
  clear e1 e2 e3
  cases h1 : decide ((32 : Int) < (b : Int)) <;> cases h2 : decide ((b : Int) ≤ 126) <;> cases h3 : ((b : Int) != 35)
  all_goals
    go_enter Tryd.func52, Tryd.ntmps52
    go_wp2_with (go_at_call 63; refine (C.out _).mono ?_; rintro e w1 ⟨rfl, rfl⟩)
    go_ret
    exact ⟨by simp, rfl⟩
theorem idx_all (l : List UInt8) : decide (Lib.indexByte l (0 : Int).toNat.toUInt8 < 0) = l.all fun c => c.toNat != 0 := by
  have hz : (0 : Int).toNat.toUInt8 = 0 := rfl
  rw [hz]
  induction l with
  | nil => rfl
  | cons c l ih =>
    rw [List.all_cons, ← ih, Lib.indexByte]
    have h0 := Lib.indexByte_ge l 0
    by_cases hc : c = 0
    · subst hc
      simp
    · have hb : (c == 0) = false := by
        rw [beq_eq_false_iff_ne]; exact hc
      have hn : (c.toNat != 0) = true := by
        simp only [bne_iff_ne]
        intro h
        exact hc (UInt8.toNat_inj.1 (by simpa using h))
      rw [hb, hn, Bool.true_and]
      simp only [Bool.false_eq_true, if_false]
      split
      · rename_i h
        rw [eq_of_beq h]
      · rename_i h
        rw [decide_eq_false (by simp at h; omega), decide_eq_false (by simp at h; omega)]
theorem oname_any (s : ByteArray) (w : World) :
    Calls Tryd.prog 59 #[.string s] w fun e w' => e = .returned (.bool (nameB s.data.toList)) ∧ w' = w := by
  have C := hide (fun w => Any.strings_IndexByte lays137 s (0 : Int) w)
  have hb := idx_all s.data.toList
  generalize Lib.indexByte s.data.toList (0 : Int).toNat.toUInt8 = I at C hb
  unfold nameB
  rw [← hb, ← Lib.size_eq]
  clear hb
  have C : Hid (∀ w, Calls Tryd.prog 69 #[.string s, .int .u8 0] w fun e w' => e = .returned (.int .i64 I) ∧ w' = w) := C
  have E := Lib.bytes_beq_iff s ⟨#[]⟩
  by_cases h0 : s = ⟨#[]⟩
  · subst h0
    clear E
    go_enter Tryd.func59, Tryd.ntmps59
    go_wp2_with (go_at_call 69; refine (C.out _).mono ?_; rintro e w1 ⟨rfl, rfl⟩)
    all_goals
      go_ret
      exact ⟨rfl, rfl⟩
  · have hne : ¬ s.toList = [] := fun h => h0 (E.1 (by rw [h, ByteArray.toList_eq]; rfl))
    have h1 : 1 ≤ s.size := by
      rcases Nat.eq_zero_or_pos s.size with h | h
      · exact absurd (ByteArray.ext (Array.eq_empty_of_size_eq_zero h)) h0
      · exact h
    by_cases h2 : s.size ≤ 127
    · have h2' : decide ((s.size : Int) ≤ 127) = true := by simp; omega
      rw [decide_eq_true (show 1 ≤ s.size ∧ s.size ≤ 127 from ⟨h1, h2⟩)]
      clear E h0 h1 h2
      go_enter Tryd.func59, Tryd.ntmps59
      go_wp2_with (go_at_call 69; refine (C.out _).mono ?_; rintro e w1 ⟨rfl, rfl⟩)
      all_goals
        go_ret
        exact ⟨by simp [hne], rfl⟩
    · have h2' : decide ((s.size : Int) ≤ 127) = false := by simp; omega
      rw [decide_eq_false (show ¬ (1 ≤ s.size ∧ s.size ≤ 127) by omega)]
      clear E h0 h1 h2
      go_enter Tryd.func59, Tryd.ntmps59
      go_wp2_with (go_at_call 69; refine (C.out _).mono ?_; rintro e w1 ⟨rfl, rfl⟩)
      all_goals
        go_ret
        exact ⟨by simp, rfl⟩
theorem nests_any (p : Pay) (ka : Option Addr) (kc : Nat) (ia : Option Addr) (n ic : Nat) (w : World) :
    Calls Tryd.prog 47 #[ov p ka kc ia n ic] w fun e w' => e = .returned (.bool (cont p)) ∧ Below w.heap.size w w' := by
  unfold cont
  cases h6 : (p.kind == 6) <;> cases h7 : (p.kind == 7)
  all_goals
    go_enter Tryd.func47, Tryd.ntmps47
    go_wp2
    go_ret
    exact ⟨by simp, (Below.refl _ _).alloc (Nat.le_refl _) _⟩
/- what a reader gives up with -/
abbrev thrown : Ending := .panicked [{ v := .iface 27 (.int .i64 50), recovered := false }]
end Go.Proofs.YtlnkddmpcicejaaDoor
/-
  What the reference's Same (chapter 5) answers.
-/
namespace Go.Proofs.YtlnkddmpcicejaaDoor
open Go.RowKit Go.Deep

def eqS (a b : ByteArray) : Bool := a.toList == b.toList
def keysEq : List ByteArray → List ByteArray → Bool
  | [], [] => true
  | a :: l, b :: m => eqS a b && keysEq l m
  | _, _ => false
/- all but the items -/
def payEq (p q : Pay) : Bool := p.kind == q.kind && p.flag == q.flag && p.num == q.num && eqS p.text q.text && keysEq p.keys q.keys
def sameF : BT Pay → BT Pay → Bool
  | .nil, .nil => true
  | .node _ _ p T N, .node _ _ q U M => payEq p q && sameF T U && sameF N M
  | _, _ => false
def sameV (p : Pay) (T : BT Pay) (q : Pay) (U : BT Pay) : Bool := payEq p q && sameF T U

theorem keysEq_len : ∀ {a b : List ByteArray}, keysEq a b = true → a.length = b.length
  | [], [], _ => rfl
  | _ :: _, _ :: _, h => by simp only [keysEq, Bool.and_eq_true] at h; simp [keysEq_len h.2]
  | [], _ :: _, h => by simp [keysEq] at h
  | _ :: _, [], h => by simp [keysEq] at h
theorem sameF_len : ∀ {T U : BT Pay}, sameF T U = true → flen T = flen U
  | .nil, .nil, _ => rfl
  | .node _ _ _ _ N, .node _ _ _ _ M, h => by simp only [sameF, Bool.and_eq_true] at h; simp [flen, sameF_len h.2]
  | .nil, .node _ _ _ _ _, h => by simp [sameF] at h
  | .node _ _ _ _ _, .nil, h => by simp [sameF] at h

theorem keysEq_step {a b : List ByteArray} {i : Nat} (h1 : i < a.length) (h2 : i < b.length) : keysEq (a.drop i) (b.drop i) = (eqS (a.getD i ByteArray.empty) (b.getD i ByteArray.empty) && keysEq (a.drop (i + 1)) (b.drop (i + 1))) := by
  rw [List.drop_eq_getElem_cons h1, List.drop_eq_getElem_cons h2, keysEq, List.getD_eq_getElem?_getD, List.getD_eq_getElem?_getD, List.getElem?_eq_getElem h1, List.getElem?_eq_getElem h2]
  rfl
theorem sameV_t {p q : Pay} {T U : BT Pay} (h : sameV p T q U = true) : p.kind = q.kind ∧ p.flag = q.flag ∧ p.num = q.num ∧ p.text.toList = q.text.toList ∧ p.keys.length = q.keys.length ∧ flen T = flen U := by
  unfold sameV payEq at h
  simp only [Bool.and_eq_true] at h
  obtain ⟨⟨⟨⟨⟨h1, h2⟩, h3⟩, h4⟩, h5⟩, h6⟩ := h
  exact ⟨eq_of_beq h1, eq_of_beq h2, eq_of_beq h3, eq_of_beq h4, keysEq_len h5, sameF_len h6⟩
theorem sameV_m {p q : Pay} {T U : BT Pay} (h : p.kind = q.kind ∧ p.flag = q.flag ∧ p.num = q.num ∧ p.text.toList = q.text.toList) : sameV p T q U = (keysEq p.keys q.keys && sameF T U) := by
  obtain ⟨h1, h2, h3, h4⟩ := h
  unfold sameV payEq eqS
  rw [h1, h2, h3, h4]
  simp
theorem below_d5 {V a b x : World} (h : Below V.heap.size V a) (hx : Below b.heap.size b x) (e0 : b.os = a.os) (e1 : b.tape = a.tape) (e2 : b.output = a.output) (e3 : b.heap = a.heap) : Below V.heap.size V x :=
  h.trans ⟨hx.os.trans e0, hx.tape.trans e1, hx.output.trans e2, e3 ▸ hx.size, fun k hk => by rw [hx.block k (by rw [e3]; exact Nat.lt_of_lt_of_le hk h.size), e3]⟩

end Go.Proofs.YtlnkddmpcicejaaDoor
/-
  What the landed Same answers, of any two objects.
-/
namespace Go.Proofs.YtlnkddmpcicejaaDoor
open Go.RowKit Go.Deep

theorem eqS_iff (a b : ByteArray) : eqS a b = decide (a = b) := by
  unfold eqS
  rw [Bool.eq_iff_iff, Lib.bytes_beq_iff, decide_eq_true_iff]
theorem keysEq_eq : ∀ (a b : List ByteArray), keysEq a b = decide (a = b)
  | [], [] => rfl
  | [], _ :: _ => by simp [keysEq]
  | _ :: _, [] => by simp [keysEq]
  | a :: l, b :: m => by rw [keysEq, keysEq_eq l m, eqS_iff, Bool.eq_iff_iff]; simp
theorem equal_any (ka kb : Option Addr) (xs ys : List ByteArray) (kc kd : Nat) (w : World) (hx : Strs w ka xs) (hy : Strs w kb ys) (h1 : xs.length ≤ 9223372036854775807) (h2 : ys.length ≤ 9223372036854775807) :
    Calls Tryd.prog 70 #[.slice ka xs.length kc, .slice kb ys.length kd] w fun e w' => e = .returned (.bool (keysEq xs ys)) ∧ Below w.heap.size w w' := by
  by_cases hn : xs.length = ys.length
  · rcases hx with rfl | ⟨b, off, rfl, hb, hc⟩
    · refine (Any.slices_Equal_string_empty lays193 ka kb kc ys.length kd w h2).mono ?_
      rintro e w' ⟨rfl, rfl⟩
      refine ⟨?_, Below.refl _ _⟩
      have hys : ys = [] := List.eq_nil_of_length_eq_zero (by simpa using hn.symm)
      subst hys
      rfl
    · rcases hy with rfl | ⟨b', off', rfl, hb', hc'⟩
      · have hxs : xs = [] := List.eq_nil_of_length_eq_zero (by simpa using hn)
        subst hxs
        refine (Any.slices_Equal_string_empty lays193 _ kb kc 0 kd w (by omega)).mono ?_
        rintro e w' ⟨rfl, rfl⟩
        exact ⟨rfl, Below.refl _ _⟩
      · refine (Any.slices_Equal_string lays193 b off xs.length kc b' off' ys.length kd xs ys w (Nat.le_refl _) (Nat.le_refl _) h1 h2 hc hc').mono ?_
        rintro e w' ⟨rfl, q, rfl⟩
        rw [List.take_length, List.take_length, keysEq_eq]
        exact ⟨rfl, below_drewN' _ _⟩
  · refine (Any.slices_Equal_string_lens lays193 ka kb xs.length kc ys.length kd w hn).mono ?_
    rintro e w' ⟨rfl, rfl⟩
    have : keysEq xs ys = false := by
      rw [Bool.eq_false_iff]
      exact fun h => hn (keysEq_len h)
    rw [this]
    exact ⟨rfl, Below.refl _ _⟩
set_option maxRecDepth 8000 in
set_option maxHeartbeats 4000000 in
theorem eqf_step (M : Nat)
    (ih : ∀ (p q : Pay) (T U : BT Pay) (ka kb : Option Addr) (kc kd : Nat) (ia ib : Option Addr) (ic id : Nat) (w : World), fsize T < M → OIn w p T ka kc ia ic → OIn w q U kb kd ib id →
      Calls Tryd.prog 61 #[ov p ka kc ia (flen T) ic, ov q kb kd ib (flen U) id] w fun e w' => e = .returned (.bool (sameV p T q U)) ∧ Below w.heap.size w w')
    (p q : Pay) (T U : BT Pay) (ka kb : Option Addr) (kc kd : Nat) (ia ib : Option Addr) (ic id : Nat) (w : World) (hM : fsize T ≤ M) (hp : OIn w p T ka kc ia ic) (hq : OIn w q U kb kd ib id) :
    Calls Tryd.prog 71 #[.slice ia (flen T) ic, .slice ib (flen U) id, .func (.func 61) #[] #[]] w fun e w' => e = .returned (.bool (sameF T U)) ∧ Below w.heap.size w w' := by
  have hl1 : (flen T : Int) ≤ 9223372036854775807 := by have h := hp.2.2.1; have h' := hp.2.2.2.1; omega
  have hl2 : (flen U : Int) ≤ 9223372036854775807 := by have h := hq.2.2.1; have h' := hq.2.2.2.1; omega
  obtain ⟨R, hR⟩ : ∃ R, sameF T U = R := ⟨_, rfl⟩
  rw [hR]
  have HR := hide hR
  by_cases hne : flen T = flen U
  case neg =>
    have f6 : ((flen T : Int) != (flen U : Int)) = true := by rw [bne_iff_ne]; omega
    obtain rfl : R = false := by rw [← hR, Bool.eq_false_iff]; exact fun h => hne (sameF_len h)
    clear hne hp hq ih hR HR
    go_enter Tryd.func71, Tryd.ntmps71
    go_wp2_with fail
    go_ret
    exact ⟨rfl, Below.refl _ _⟩
  have f6 : ((flen T : Int) != (flen U : Int)) = false := by rw [hne]; simp
  have E6 := hide hne
  obtain ⟨b, off, hia, hrows⟩ := OIn.at_ hp
  obtain ⟨b', off', hib, hrows'⟩ := OIn.at_ hq
  have HRA := hide hrows
  have HRB := hide hrows'
  have HIA := hide hia
  have HIB := hide hib
  have IH := hide ih
  have HM := hide hM
  clear hrows hrows' hia hib hp hq ih hM hne hR
  go_enter Tryd.func71, Tryd.ntmps71
  go_wp2_with fail
  go_loopw [17] (fun vk wt => ∃ (k : Nat) (A B : BT Pay), vk = .int .i64 k ∧ Hid (flen A + k = flen T ∧ flen B + k = flen U ∧ fsize A ≤ fsize T ∧ Rows w A b (off + k * 6) ∧ Rows w B b' (off' + k * 6) ∧ sameF A B = R ∧ Below w.heap.size w wt)) (fun vk _ => flen T - (intOf vk).toNat)
  case atStart => exact ⟨0, T, U, rfl, hide ⟨by omega, by omega, Nat.le_refl _, by simpa using HRA.out, by simpa using HRB.out, HR.out, Below.refl _ _⟩⟩
  case round =>
    clear HRA HRB HR
    obtain ⟨k, A, B, rfl, HV⟩ := hrel
    obtain ⟨hk1, hk2, hu, hra, hrb, hs, hbel⟩ := HV.out
    clear HV
    have HBL := hide hbel
    have e6 := E6.out
    cases A with
    | nil =>
      have hB : B = .nil := flen_zero (by simp [flen] at hk1; omega)
      subst hB
      obtain rfl : true = R := hs
      have hk' : ¬ k < flen T := by simp [flen] at hk1; omega
      clear hk1 hk2 hra hrb hbel hu e6
      go_wp2_with fail
      go_ret
      exact ⟨rfl, HBL.out⟩
    | node b0 o0 p1 T1 N1 =>
      cases B with
      | nil => simp [flen] at hk1 hk2; omega
      | node b1 o1 q1 U1 N2 =>
        obtain ⟨⟨ka', kc', ia', ic', g6, gin⟩, grest⟩ := rows_node.1 hra
        obtain ⟨⟨kb', kd', ib', id', g7, gin'⟩, grest'⟩ := rows_node.1 hrb
        obtain rfl | ⟨rfl, hbz⟩ := HIA.out
        · simp [flen] at hk1
        obtain rfl | ⟨rfl, hbz'⟩ := HIB.out
        · simp [flen] at hk2
        have hlt : k < flen T := by simp [flen] at hk1; omega
        have hlt2 : k < flen U := by simp [flen] at hk2; omega
        have hk0 : (0 : Int) ≤ (k : Int) := by omega
        have hst : fsize T1 < M := by have := HM.out; simp [fsize] at hu; omega
        have CI := fun (wt' : World) (h : Below w.heap.size w wt') => IH.out p1 q1 T1 U1 ka' kb' kc' kd' ia' ib' ic' id' wt' hst (gin.below h) (gin'.below h)
        obtain ⟨c0, c1, c2, c3, c4, c5⟩ := g6.below hbz hbel
        obtain ⟨d0, d1, d2, d3, d4, d5⟩ := g7.below hbz' hbel
        have hs' : (sameV p1 T1 q1 U1 && sameF N1 N2) = R := hs
        generalize sameV p1 T1 q1 U1 = r at CI hs'
        have CI := hide CI
        have HS := hide hs'
        have HK := hide (show flen N1 + (k + 1) = flen T ∧ flen N2 + (k + 1) = flen U ∧ fsize N1 ≤ fsize T by simp [flen, fsize] at hk1 hk2 hu; omega)
        have HRA := hide grest
        have HRB := hide grest'
        have hb1 : b < wr.heap.size := Nat.lt_of_lt_of_le hbz hbel.size
        have hb2 : b' < wr.heap.size := Nat.lt_of_lt_of_le hbz' hbel.size
        clear hk1 hk2 hu hra hrb hs hs' hbel g6 g7 gin gin' grest grest' e6
        cases r
        · obtain rfl : false = R := HS.out
          go_wp2_with (go_at_call 61; refine (CI.out _ ?_).mono ?_; exact (HBL.out.alloc HBL.out.size _).alloc (by have := HBL.out.size; simp; omega) _; rintro e wy ⟨rfl, hy⟩)
          go_ret
          exact ⟨rfl, below_t5 ((HBL.out.alloc HBL.out.size _).alloc (by have := HBL.out.size; simp; omega) _) hy⟩
        · go_wp2_with (go_at_call 61; refine (CI.out _ ?_).mono ?_; exact (HBL.out.alloc HBL.out.size _).alloc (by have := HBL.out.size; simp; omega) _; rintro e wy ⟨rfl, hy⟩)
          go_roundw
          case rel => exact ⟨k + 1, N1, N2, by go_num, hide ⟨HK.out.1, HK.out.2.1, HK.out.2.2, by have := HRA.out; rw [show off + (k + 1) * 6 = off + k * 6 + 6 by omega]; exact this, by have := HRB.out; rw [show off' + (k + 1) * 6 = off' + k * 6 + 6 by omega]; exact this, by have := HS.out; rwa [Bool.true_and] at this, below_t5 ((HBL.out.alloc HBL.out.size _).alloc (by have := HBL.out.size; simp; omega) _) hy⟩⟩
          case measure => have := HK.out; simp [intOf]; omega
set_option maxRecDepth 8000 in
set_option maxHeartbeats 4000000 in
theorem osame_step (M : Nat)
    (ih : ∀ (p q : Pay) (T U : BT Pay) (ka kb : Option Addr) (kc kd : Nat) (ia ib : Option Addr) (ic id : Nat) (w : World), fsize T < M → OIn w p T ka kc ia ic → OIn w q U kb kd ib id →
      Calls Tryd.prog 61 #[ov p ka kc ia (flen T) ic, ov q kb kd ib (flen U) id] w fun e w' => e = .returned (.bool (sameV p T q U)) ∧ Below w.heap.size w w')
    (p q : Pay) (T U : BT Pay) (ka kb : Option Addr) (kc kd : Nat) (ia ib : Option Addr) (ic id : Nat) (w : World) (hM : fsize T ≤ M) (hp : OIn w p T ka kc ia ic) (hq : OIn w q U kb kd ib id) :
    Calls Tryd.prog 61 #[ov p ka kc ia (flen T) ic, ov q kb kd ib (flen U) id] w fun e w' => e = .returned (.bool (sameV p T q U)) ∧ Below w.heap.size w w' := by
  have CF := hide (fun w' h => eqf_step M ih p q T U ka kb kc kd ia ib ic id w' hM (OIn.below (w := w) (w' := w') h hp) (OIn.below (w := w) (w' := w') h hq))
  have CE := hide (fun w' h => equal_any ka kb p.keys q.keys kc kd w' (Strs.below (w := w) (w' := w') hp.2.1.1 h) (Strs.below (w := w) (w' := w') hq.2.1.1 h) (by have h := hp.2.1.2.1; have h' := hp.2.1.2.2; omega) (by have h := hq.2.1.2.1; have h' := hq.2.1.2.2; omega))
  have HB : Hid (∀ c d, Below w.heap.size w ((w.alloc c).alloc d)) := hide (fun c d => ((Below.refl _ _).alloc (Nat.le_refl _) c).alloc (by simp) d)
  have HZ : Hid (∀ c d, w.heap.size < ((w.alloc c).alloc d).heap.size ∧ w.heap.size + 1 < ((w.alloc c).alloc d).heap.size) := hide (fun c d => by constructor <;> simp <;> omega)
  have HA := hide ((six_box w p ka kc ia (flen T) ic 39).below (by simp) ((Below.refl _ _).alloc (Nat.le_refl _) (.cells #[.int .i64 q.kind, .bool q.flag, .int .i64 q.num, .string q.text, .slice kb q.keys.length kd, .slice ib (flen U) id] 39)))
  have HC := six_box (w.alloc (.cells #[.int .i64 p.kind, .bool p.flag, .int .i64 p.num, .string p.text, .slice ka p.keys.length kc, .slice ia (flen T) ic] 39)) q kb kd ib (flen U) id 39
  rw [show (w.alloc (.cells #[.int .i64 p.kind, .bool p.flag, .int .i64 p.num, .string p.text, .slice ka p.keys.length kc, .slice ia (flen T) ic] 39)).heap.size = w.heap.size + 1 by simp] at HC
  have HC := hide HC
  unfold sameV payEq eqS
  generalize sameF T U = F at CF
  generalize keysEq p.keys q.keys = E at CE
  clear hp hq ih hM
  cases h1 : (p.kind == q.kind)
  · go_enter Tryd.func61, Tryd.ntmps61
    go_wp2_with fail
    go_ret
    exact ⟨by simp, HB.out _ _⟩
  cases h2 : (p.flag == q.flag)
  · go_enter Tryd.func61, Tryd.ntmps61
    go_wp2_with fail
    go_ret
    exact ⟨by simp, HB.out _ _⟩
  cases h3 : (p.num == q.num)
  · go_enter Tryd.func61, Tryd.ntmps61
    go_wp2_with fail
    go_ret
    exact ⟨by simp, HB.out _ _⟩
  cases h4 : (p.text.toList == q.text.toList)
  · go_enter Tryd.func61, Tryd.ntmps61
    go_wp2_with fail
    go_ret
    exact ⟨by simp, HB.out _ _⟩
  cases E
  · go_enter Tryd.func61, Tryd.ntmps61
    go_wp2_with (go_at_call 70; refine (CE.out _ (HB.out _ _)).mono ?_; rintro e wx ⟨rfl, hx⟩; have HX := hide (below_t5 (HB.out _ _) hx); clear hx)
    go_ret
    exact ⟨by simp, HX.out⟩
  · go_enter Tryd.func61, Tryd.ntmps61
    go_wp2_with (first | (go_at_call 70; refine (CE.out _ (HB.out _ _)).mono ?_; rintro e wx ⟨rfl, hx⟩; have HX := hide (below_t5 (HB.out _ _) hx); obtain ⟨s0, s1, s2, s3, s4, s5⟩ := HA.out.below (HZ.out _ _).1 hx; obtain ⟨t0, t1, t2, t3, t4, t5⟩ := HC.out.below (HZ.out _ _).2 hx; (try simp only [Nat.zero_add] at s5 t5); clear hx) | (go_at_call 71; refine (CF.out _ HX.out).mono ?_; rintro e wy ⟨rfl, hy⟩))
    go_ret
    exact ⟨by simp, below_t5 HX.out hy⟩
theorem osame_core : ∀ (M : Nat) (p q : Pay) (T U : BT Pay) (ka kb : Option Addr) (kc kd : Nat) (ia ib : Option Addr) (ic id : Nat) (w : World), fsize T < M → OIn w p T ka kc ia ic → OIn w q U kb kd ib id →
      Calls Tryd.prog 61 #[ov p ka kc ia (flen T) ic, ov q kb kd ib (flen U) id] w fun e w' => e = .returned (.bool (sameV p T q U)) ∧ Below w.heap.size w w'
  | 0 => fun _ _ _ _ _ _ _ _ _ _ _ _ _ h => absurd h (Nat.not_lt_zero _)
  | M + 1 => fun p q T U ka kb kc kd ia ib ic id w hM hp hq => osame_step M (osame_core M) p q T U ka kb kc kd ia ib ic id w (by omega) hp hq
theorem osame_any (p q : Pay) (T U : BT Pay) (ka kb : Option Addr) (kc kd : Nat) (ia ib : Option Addr) (ic id : Nat) (w : World) (hp : OIn w p T ka kc ia ic) (hq : OIn w q U kb kd ib id) :
    Calls Tryd.prog 61 #[ov p ka kc ia (flen T) ic, ov q kb kd ib (flen U) id] w fun e w' => e = .returned (.bool (sameV p T q U)) ∧ Below w.heap.size w w' :=
  osame_core _ p q T U ka kb kc kd ia ib ic id w (Nat.lt_succ_self _) hp hq
end Go.Proofs.YtlnkddmpcicejaaDoor
/-
  What the landed areKeys answers: the set of the keys that were seen.
-/
namespace Go.Proofs.YtlnkddmpcicejaaDoor
open Go.RowKit Go.Deep Go.Maps

theorem law9 : Keyed Tryd.prog 9 := string_keyed Tryd.underlying9
theorem zero95 (w : World) : (zeroValue 98).run Tryd.prog w = .ok (.agg #[]) w := by kernel_rfl
def Sk (l : List ByteArray) : DataW Unit := setOf (.agg []) (l.map fun s => Lit.string s.data.toList)
theorem Sk_nil : Sk [] = .map [] := rfl
theorem Sk_snoc (l : List ByteArray) (s : ByteArray) : Sk (l ++ [s]) = (Sk l).put (.string s.data.toList) (.agg []) := by
  unfold Sk
  rw [List.map_append, List.map_cons, List.map_nil, setOf_snoc]
theorem has_Sk (l : List ByteArray) (s : ByteArray) : Maps.has (Sk l) (.string s.data.toList) = decide (s.data.toList ∈ l.map fun t => t.data.toList) := by
  unfold Sk
  rw [has_setOf _ _ _ (fun x hx => by obtain ⟨t, _, rfl⟩ := List.mem_map.1 hx; trivial)]
  rw [List.any_map, Bool.eq_iff_iff, List.any_eq_true, decide_eq_true_iff, List.mem_map]
  constructor
  · rintro ⟨t, h1, h2⟩
    have := WideAt.sameKey_eq (a := .string t.data.toList) (b := .string s.data.toList) h2
    simp at this
    exact ⟨t, h1, by rw [this]⟩
  · rintro ⟨t, h1, h2⟩
    exact ⟨t, h1, by simp [Lit.sameKey, h2]⟩
theorem make_any (n : Int) (w : World) : (Instr.makeMap 97 (some (.int .i64 n))).run Tryd.prog w = .ok (.map (some w.heap.size)) (w.alloc (.map #[] 0)) := by
  simp [Instr.makeMap, run_underlying Tryd.underlying97, asInt, asIntOf]
theorem keysB_step (l : List ByteArray) (i : Nat) (h : i < l.length) (seen : List (List UInt8)) :
    keysB seen (l.drop i) = (nameB (l.getD i ByteArray.empty).data.toList && decide ((l.getD i ByteArray.empty).data.toList ∉ seen) && keysB (seen ++ [(l.getD i ByteArray.empty).data.toList]) (l.drop (i + 1))) := by
  rw [List.drop_eq_getElem_cons h, keysB, List.getD_eq_getElem?_getD, List.getElem?_eq_getElem h]
  rfl
theorem take_snoc (l : List ByteArray) (i : Nat) (h : i < l.length) : l.take (i + 1) = l.take i ++ [l.getD i ByteArray.empty] := by
  rw [List.take_add_one, List.getElem?_eq_getElem h, List.getD_eq_getElem?_getD, List.getElem?_eq_getElem h]
  rfl
set_option maxRecDepth 8000 in
set_option maxHeartbeats 4000000 in
theorem areKeys_any (ka : Option Addr) (ss : List ByteArray) (kc : Nat) (w : World) (hS : Strs w ka ss) (hn : ss.length ≤ 8796093022208) (hsz : ∀ s ∈ ss, s.size ≤ 9223372036854775807) :
    Calls Tryd.prog 60 #[.slice ka ss.length kc] w fun e w' => e = .returned (.bool (keysB [] ss)) ∧ Below w.heap.size w w' := by
  have hmm := make_any
  obtain ⟨R, hR⟩ : ∃ R, keysB [] ss = R := ⟨_, rfl⟩
  rw [hR]
  have HR := hide hR
  have HS := hide hS
  have HZ := hide hsz
  have hn' : (ss.length : Int) ≤ 9223372036854775807 := by omega
  have HN := hide hn
  clear hR hS hsz hn
  go_enter Tryd.func60, Tryd.ntmps60
  go_wp2_with fail
  go_loopw [13] (fun vi wr => ∃ i : Nat, vi = .int .i64 i ∧ Hid (i ≤ ss.length ∧ keysB ((ss.take i).map fun t => t.data.toList) (ss.drop i) = R ∧ wr.ownsMap Tryd.prog 9 unitElem w.heap.size i (Sk (ss.take i)) ∧ Below w.heap.size w wr ∧ w.heap.size + 1 ≤ wr.heap.size)) (fun vi _ => ss.length - (intOf vi).toNat)
  case atStart => exact ⟨0, rfl, hide ⟨Nat.zero_le _, by simpa using HR.out, World.ownsMap_made _ _ _ _, (Below.refl _ _).alloc (Nat.le_refl _) _, by simp⟩⟩
  case round =>
    clear HR
    obtain ⟨i, rfl, HV⟩ := hrel
    obtain ⟨hi, hk, hown, hbel, hws⟩ := HV.out
    clear HV
    have HB := hide hbel
    have HO := hide hown
    have hi0 : (0 : Int) ≤ (i : Int) := by omega
    by_cases hlt : i < ss.length
    case neg =>
      obtain rfl : R = true := by rw [← hk, List.drop_of_length_le (by omega)]; rfl
      clear hk hown hbel hi
      go_wp2_with fail
      go_ret
      exact ⟨rfl, HB.out⟩
    case pos =>
      obtain ⟨b, off, rfl, hb, hc⟩ := HS.out.get5 hlt
      have c1 := (hbel.cell (p := ⟨b, off + i, none⟩) hb).trans hc
      have st := keysB_step ss i hlt ((ss.take i).map fun t => t.data.toList)
      have hta := take_snoc ss i hlt
      have hhas := has_Sk (ss.take i) (ss.getD i ByteArray.empty)
      have hkey : keyOf Tryd.prog 9 (.string (ss.getD i ByteArray.empty)) = some (.string (ss.getD i ByteArray.empty).data.toList) := WideMaps.keyOf_string_mk Tryd.underlying9 (HZ.out _ (by rw [List.getD_eq_getElem?_getD, List.getElem?_eq_getElem hlt]; exact List.getElem_mem hlt))
      generalize ss.getD i ByteArray.empty = x at c1 st hta hhas hkey
      have HC := hide (fun w => oname_any x w)
      have HKEY := hide hkey
      have HHAS := hide hhas
      have HTA := hide hta
      rw [hk] at st
      generalize hD : decide (x.data.toList ∈ (ss.take i).map fun t => t.data.toList) = D at hhas
      have hD' : decide (x.data.toList ∉ (ss.take i).map fun t => t.data.toList) = !D := by rw [← hD]; simp
      rw [hD'] at st
      generalize nameB x.data.toList = NB at st HC
      have HST := hide st
      have HD := hide hhas
      clear hc hbel hi hk st hta hkey hD hD' hown HHAS hhas
      cases hhd : Maps.has (Sk (ss.take i)) (.string x.data.toList)
      · have hDf : D = false := by rw [← HD.out]; exact hhd
        subst hDf
        cases NB
        · obtain rfl : R = false := by rw [HST.out]; simp
          go_wp2_with (first
            | (at_lookup; refine wpList_lookup_own_unit _ rfl _ _ 97 rfl 9 98 law9 Tryd.underlying97 (zero95 _) w.heap.size i _ rfl HO.out _ _ rfl HKEY.out ?_; rw [hhd])
            | (go_at_call 59; refine (HC.out _).mono ?_; rintro e w1 ⟨rfl, rfl⟩))
          go_ret
          exact ⟨rfl, HB.out.alloc HB.out.size _⟩
        · have hst : R = keysB ((ss.take (i + 1)).map fun t => t.data.toList) (ss.drop (i + 1)) := by
            rw [HST.out, HTA.out, List.map_append]; simp
          have HST2 := hide hst
          clear hst
          go_wp2_with (first
            | (at_lookup; refine wpList_lookup_own_unit _ rfl _ _ 97 rfl 9 98 law9 Tryd.underlying97 (zero95 _) w.heap.size i _ rfl HO.out _ _ rfl HKEY.out ?_; rw [hhd])
            | (go_at_call 59; refine (HC.out _).mono ?_; rintro e w1 ⟨rfl, rfl⟩)
            | (at_mapUpdate; refine wpList_mapUpdate_own _ rfl _ _ _ 97 rfl 9 98 law9 Tryd.underlying97 (unitElem (H := Unit)) w.heap.size i _ rfl (HO.out.alloc _) (by have := HN.out; unfold maxLen; omega) _ _ _ rfl rfl HKEY.out _ [] unitElem_mk ?_; intro w1 hown1 hgrow1))
          go_roundw
          case rel => exact ⟨i + 1, by go_num, hide ⟨by omega, HST2.out.symm, by rw [HTA.out, Sk_snoc]; exact hown1, (HB.out.alloc HB.out.size _).grown hgrow1 (by have := HB.out.size; simp; omega) (fun j hj => by cases hj; exact Nat.le_refl _), by have := hgrow1.size; simp at this; omega⟩⟩
          case measure => simp [intOf]; omega
      · have hDt : D = true := by rw [← HD.out]; exact hhd
        subst hDt
        obtain rfl : R = false := by rw [HST.out]; simp
        go_wp2_with (first
          | (at_lookup; refine wpList_lookup_own_unit _ rfl _ _ 97 rfl 9 98 law9 Tryd.underlying97 (zero95 _) w.heap.size i _ rfl HO.out _ _ rfl HKEY.out ?_; rw [hhd])
          | (go_at_call 59; refine (HC.out _).mono ?_; rintro e w1 ⟨rfl, rfl⟩))
        go_ret
        exact ⟨rfl, HB.out.alloc HB.out.size _⟩
end Go.Proofs.YtlnkddmpcicejaaDoor
/-
  What the landed fits answers, kind by kind.
-/
namespace Go.Proofs.YtlnkddmpcicejaaDoor
open Go.RowKit Go.Deep

theorem OIn.mod {w : World} {p : Pay} {T : BT Pay} {ka ia : Option Addr} {kc ic : Nat} (h : OIn w p T ka kc ia ic) (f : Bool) {n : Int} {t : ByteArray} (hn : n = p.num ∨ n = 0) (ht : t = p.text ∨ t = ⟨#[]⟩) : OIn w ⟨0, f, n, t, p.keys⟩ T ka kc ia ic := by
  obtain ⟨⟨_, h2, h3, h4⟩, h5⟩ := h
  refine ⟨⟨⟨by simp, by simp⟩, ?_, ?_, h4⟩, h5⟩
  · rcases hn with rfl | rfl
    · exact h2
    · simp
  · rcases ht with rfl | rfl
    · exact h3
    · simp [ByteArray.size]
theorem OIn.noItems {w : World} {p : Pay} {T : BT Pay} {ka ia : Option Addr} {kc ic : Nat} (h : OIn w p T ka kc ia ic) : OIn w p .nil ka kc none 0 := by
  obtain ⟨h1, h2, _⟩ := h
  exact ⟨h1, h2, ⟨by simp [flen], by simp [flen]⟩, by omega, Or.inl rfl⟩
theorem OIn.noKeys {w : World} {p : Pay} {T : BT Pay} {ka ia : Option Addr} {kc ic : Nat} (h : OIn w p T ka kc ia ic) : OIn w ⟨p.kind, p.flag, p.num, p.text, []⟩ T none 0 ia ic := by
  obtain ⟨⟨h1, h2, h3, _⟩, _, h5⟩ := h
  exact ⟨⟨h1, h2, h3, by simp⟩, ⟨Or.inl rfl, ⟨by simp, by simp⟩, by omega⟩, h5⟩
theorem size_zero (t : ByteArray) : (t.toList == (⟨#[]⟩ : ByteArray).toList) = (t.size == 0) := by
  rw [Bool.eq_iff_iff, Lib.bytes_beq_iff, beq_iff_eq]
  constructor
  · rintro rfl; rfl
  · intro h; exact ByteArray.ext (Array.eq_empty_of_size_eq_zero h)
theorem same_z (f : Bool) (n : Int) (t : ByteArray) (k : List ByteArray) (T : BT Pay) : sameV ⟨0, f, n, t, k⟩ T zpay .nil = (!f && n == 0 && t.size == 0 && k.length == 0 && flen T == 0) := by
  unfold sameV payEq eqS zpay
  simp only [size_zero]
  have h1 : keysEq k [] = (k.length == 0) := by cases k <;> simp [keysEq]
  have h2 : sameF T .nil = (flen T == 0) := by cases T <;> simp [sameF, flen]
  rw [h1, h2]
  cases f <;> simp
set_option maxRecDepth 8000 in
set_option maxHeartbeats 4000000 in
theorem fits_0 (p : Pay) (T : BT Pay) (ka : Option Addr) (kc : Nat) (ia : Option Addr) (ic : Nat) (w : World) (hin : OIn w p T ka kc ia ic) (hk : p.kind = 0) :
    Calls Tryd.prog 46 #[ov p ka kc ia (flen T) ic] w fun e w' => e = .returned (.bool (flatV p (flen T))) ∧ Below w.heap.size w w' := by
  have hV : flatV p (flen T) = (true && sameV ⟨0, p.flag, p.num, p.text, p.keys⟩ T zpay .nil) := by
    rw [same_z]
    unfold flatV
    rw [hk]
    simp only [bne]
    cases p.flag <;> cases (p.num == 0) <;> cases (p.text.size == 0) <;> cases (p.keys.length == 0) <;> cases (flen T == 0) <;> simp
  have e0 : (p.kind == 0) = true := by rw [hk]; rfl
  have e1 : (p.kind == 1) = false := by rw [hk]; rfl
  have e2 : (p.kind == 2) = false := by rw [hk]; rfl
  have e3 : (p.kind == 3) = false := by rw [hk]; rfl
  have e4 : (p.kind == 4) = false := by rw [hk]; rfl
  have e5 : (p.kind == 5) = false := by rw [hk]; rfl
  have e6 : (p.kind == 6) = false := by rw [hk]; rfl
  have e7 : (p.kind == 7) = false := by rw [hk]; rfl
  have e8 : (p.kind == 8) = false := by rw [hk]; rfl
  have CS := hide (fun w' h => osame_any ⟨0, p.flag, p.num, p.text, p.keys⟩ zpay T .nil ka none kc 0 ia none ic 0 w' ((OIn.below (w := w) (w' := w') h hin).mod p.flag (Or.inl rfl) (Or.inl rfl)) (zin w'))
  have HB := hide (((Below.refl w.heap.size w).alloc (Nat.le_refl _) (.cells (obox p ka kc ia (flen T) ic) 39)).alloc (by simp) (.cells #[.int .i64 0, .bool p.flag, .int .i64 p.num, .string p.text, .slice ka p.keys.length kc, .slice ia (flen T) ic] 39))
  rw [hV]
  generalize sameV ⟨0, p.flag, p.num, p.text, p.keys⟩ T zpay .nil = S at CS
  clear hV hk hin
  go_enter Tryd.func46, Tryd.ntmps46
  go_wp2_with (go_at_call 61; refine (CS.out _ HB.out).mono ?_; rintro e wy ⟨rfl, hy⟩)
  all_goals
    go_ret
    first | exact ⟨rfl, below_t5 HB.out hy⟩ | exact ⟨rfl, HB.out⟩ | exact ⟨by simp, below_t5 HB.out hy⟩ | exact ⟨by simp, HB.out⟩
set_option maxRecDepth 8000 in
set_option maxHeartbeats 4000000 in
theorem fits_1 (p : Pay) (T : BT Pay) (ka : Option Addr) (kc : Nat) (ia : Option Addr) (ic : Nat) (w : World) (hin : OIn w p T ka kc ia ic) (hk : p.kind = 1) :
    Calls Tryd.prog 46 #[ov p ka kc ia (flen T) ic] w fun e w' => e = .returned (.bool (flatV p (flen T))) ∧ Below w.heap.size w w' := by
  have hV : flatV p (flen T) = (true && sameV ⟨0, false, p.num, p.text, p.keys⟩ T zpay .nil) := by
    rw [same_z]
    unfold flatV
    rw [hk]
    simp only [bne]
    cases p.flag <;> cases (p.num == 0) <;> cases (p.text.size == 0) <;> cases (p.keys.length == 0) <;> cases (flen T == 0) <;> simp
  have e0 : (p.kind == 0) = false := by rw [hk]; rfl
  have e1 : (p.kind == 1) = true := by rw [hk]; rfl
  have e2 : (p.kind == 2) = false := by rw [hk]; rfl
  have e3 : (p.kind == 3) = false := by rw [hk]; rfl
  have e4 : (p.kind == 4) = false := by rw [hk]; rfl
  have e5 : (p.kind == 5) = false := by rw [hk]; rfl
  have e6 : (p.kind == 6) = false := by rw [hk]; rfl
  have e7 : (p.kind == 7) = false := by rw [hk]; rfl
  have e8 : (p.kind == 8) = false := by rw [hk]; rfl
  have CS := hide (fun w' h => osame_any ⟨0, false, p.num, p.text, p.keys⟩ zpay T .nil ka none kc 0 ia none ic 0 w' ((OIn.below (w := w) (w' := w') h hin).mod false (Or.inl rfl) (Or.inl rfl)) (zin w'))
  have HB := hide (((Below.refl w.heap.size w).alloc (Nat.le_refl _) (.cells (obox p ka kc ia (flen T) ic) 39)).alloc (by simp) (.cells #[.int .i64 0, .bool false, .int .i64 p.num, .string p.text, .slice ka p.keys.length kc, .slice ia (flen T) ic] 39))
  rw [hV]
  generalize sameV ⟨0, false, p.num, p.text, p.keys⟩ T zpay .nil = S at CS
  clear hV hk hin
  go_enter Tryd.func46, Tryd.ntmps46
  go_wp2_with (go_at_call 61; refine (CS.out _ HB.out).mono ?_; rintro e wy ⟨rfl, hy⟩)
  all_goals
    go_ret
    first | exact ⟨rfl, below_t5 HB.out hy⟩ | exact ⟨rfl, HB.out⟩ | exact ⟨by simp, below_t5 HB.out hy⟩ | exact ⟨by simp, HB.out⟩
set_option maxRecDepth 8000 in
set_option maxHeartbeats 4000000 in
theorem fits_2 (p : Pay) (T : BT Pay) (ka : Option Addr) (kc : Nat) (ia : Option Addr) (ic : Nat) (w : World) (hin : OIn w p T ka kc ia ic) (hk : p.kind = 2) :
    Calls Tryd.prog 46 #[ov p ka kc ia (flen T) ic] w fun e w' => e = .returned (.bool (flatV p (flen T))) ∧ Below w.heap.size w w' := by
  have hV : flatV p (flen T) = (decide (-1099511627776 ≤ p.num ∧ p.num ≤ 1099511627776) && sameV ⟨0, p.flag, 0, p.text, p.keys⟩ T zpay .nil) := by
    rw [same_z]
    unfold flatV
    rw [hk]
    simp only [bne]
    cases p.flag <;> cases (p.num == 0) <;> cases (p.text.size == 0) <;> cases (p.keys.length == 0) <;> cases (flen T == 0) <;> simp
  have e0 : (p.kind == 0) = false := by rw [hk]; rfl
  have e1 : (p.kind == 1) = false := by rw [hk]; rfl
  have e2 : (p.kind == 2) = true := by rw [hk]; rfl
  have e3 : (p.kind == 3) = false := by rw [hk]; rfl
  have e4 : (p.kind == 4) = false := by rw [hk]; rfl
  have e5 : (p.kind == 5) = false := by rw [hk]; rfl
  have e6 : (p.kind == 6) = false := by rw [hk]; rfl
  have e7 : (p.kind == 7) = false := by rw [hk]; rfl
  have e8 : (p.kind == 8) = false := by rw [hk]; rfl
  have CS := hide (fun w' h => osame_any ⟨0, p.flag, 0, p.text, p.keys⟩ zpay T .nil ka none kc 0 ia none ic 0 w' ((OIn.below (w := w) (w' := w') h hin).mod p.flag (Or.inr rfl) (Or.inl rfl)) (zin w'))
  have HB := hide (((Below.refl w.heap.size w).alloc (Nat.le_refl _) (.cells (obox p ka kc ia (flen T) ic) 39)).alloc (by simp) (.cells #[.int .i64 0, .bool p.flag, .int .i64 0, .string p.text, .slice ka p.keys.length kc, .slice ia (flen T) ic] 39))
  rw [hV]
  generalize sameV ⟨0, p.flag, 0, p.text, p.keys⟩ T zpay .nil = S at CS
  clear hV hk hin
  have CI := hide (fun w => in_any p.num w)
  rw [show decide (-1099511627776 ≤ p.num ∧ p.num ≤ 1099511627776) = inB p.num from rfl]
  generalize inB p.num = I at CI ⊢
  cases I
  all_goals
    go_enter Tryd.func46, Tryd.ntmps46
    go_wp2_with (first | (go_at_call 50; refine (CI.out _).mono ?_; rintro e wx ⟨rfl, rfl⟩) | (go_at_call 61; refine (CS.out _ HB.out).mono ?_; rintro e wy ⟨rfl, hy⟩))
    all_goals
      go_ret
      first | exact ⟨rfl, below_t5 HB.out hy⟩ | exact ⟨rfl, HB.out⟩ | exact ⟨by simp, below_t5 HB.out hy⟩ | exact ⟨by simp, HB.out⟩
set_option maxRecDepth 8000 in
set_option maxHeartbeats 4000000 in
theorem fits_3 (p : Pay) (T : BT Pay) (ka : Option Addr) (kc : Nat) (ia : Option Addr) (ic : Nat) (w : World) (hin : OIn w p T ka kc ia ic) (hk : p.kind = 3) :
    Calls Tryd.prog 46 #[ov p ka kc ia (flen T) ic] w fun e w' => e = .returned (.bool (flatV p (flen T))) ∧ Below w.heap.size w w' := by
  have hV : flatV p (flen T) = ((decide (-1099511627776 ≤ p.num ∧ p.num ≤ 1099511627776) && decide (p.num % 65536 ≠ 0)) && sameV ⟨0, p.flag, 0, p.text, p.keys⟩ T zpay .nil) := by
    rw [same_z]
    unfold flatV
    rw [hk]
    simp only [bne]
    cases p.flag <;> cases (p.num == 0) <;> cases (p.text.size == 0) <;> cases (p.keys.length == 0) <;> cases (flen T == 0) <;> simp
  have e0 : (p.kind == 0) = false := by rw [hk]; rfl
  have e1 : (p.kind == 1) = false := by rw [hk]; rfl
  have e2 : (p.kind == 2) = false := by rw [hk]; rfl
  have e3 : (p.kind == 3) = true := by rw [hk]; rfl
  have e4 : (p.kind == 4) = false := by rw [hk]; rfl
  have e5 : (p.kind == 5) = false := by rw [hk]; rfl
  have e6 : (p.kind == 6) = false := by rw [hk]; rfl
  have e7 : (p.kind == 7) = false := by rw [hk]; rfl
  have e8 : (p.kind == 8) = false := by rw [hk]; rfl
  have CS := hide (fun w' h => osame_any ⟨0, p.flag, 0, p.text, p.keys⟩ zpay T .nil ka none kc 0 ia none ic 0 w' ((OIn.below (w := w) (w' := w') h hin).mod p.flag (Or.inr rfl) (Or.inl rfl)) (zin w'))
  have HB := hide (((Below.refl w.heap.size w).alloc (Nat.le_refl _) (.cells (obox p ka kc ia (flen T) ic) 39)).alloc (by simp) (.cells #[.int .i64 0, .bool p.flag, .int .i64 0, .string p.text, .slice ka p.keys.length kc, .slice ia (flen T) ic] 39))
  rw [hV]
  generalize sameV ⟨0, p.flag, 0, p.text, p.keys⟩ T zpay .nil = S at CS
  clear hV hk hin
  have CI := hide (fun w => in_any p.num w)
  rw [show decide (-1099511627776 ≤ p.num ∧ p.num ≤ 1099511627776) = inB p.num from rfl]
  generalize inB p.num = I at CI ⊢
  have hD : decide (p.num % 65536 ≠ 0) = (p.num.tmod 65536 != 0) := by
    rw [Bool.eq_iff_iff, decide_eq_true_iff, bne_iff_ne]
    constructor <;> intro h h' <;> apply h
    · exact Int.emod_eq_zero_of_dvd (Int.dvd_of_tmod_eq_zero h')
    · exact Int.tmod_eq_zero_of_dvd (Int.dvd_of_emod_eq_zero h')
  rw [hD]
  cases hD2 : (p.num.tmod 65536 != 0) <;> cases I
  all_goals
    go_enter Tryd.func46, Tryd.ntmps46
    go_wp2_with (first | (go_at_call 50; refine (CI.out _).mono ?_; rintro e wx ⟨rfl, rfl⟩) | (go_at_call 61; refine (CS.out _ HB.out).mono ?_; rintro e wy ⟨rfl, hy⟩))
    all_goals
      go_ret
      first | exact ⟨rfl, below_t5 HB.out hy⟩ | exact ⟨rfl, HB.out⟩ | exact ⟨by simp, below_t5 HB.out hy⟩ | exact ⟨by simp, HB.out⟩
set_option maxRecDepth 8000 in
set_option maxHeartbeats 4000000 in
theorem fits_4 (p : Pay) (T : BT Pay) (ka : Option Addr) (kc : Nat) (ia : Option Addr) (ic : Nat) (w : World) (hin : OIn w p T ka kc ia ic) (hk : p.kind = 4) :
    Calls Tryd.prog 46 #[ov p ka kc ia (flen T) ic] w fun e w' => e = .returned (.bool (flatV p (flen T))) ∧ Below w.heap.size w w' := by
  have hV : flatV p (flen T) = (nameB p.text.data.toList && sameV ⟨0, p.flag, p.num, ⟨#[]⟩, p.keys⟩ T zpay .nil) := by
    rw [same_z]
    unfold flatV
    rw [hk]
    simp only [bne]
    cases p.flag <;> cases (p.num == 0) <;> cases (p.text.size == 0) <;> cases (p.keys.length == 0) <;> cases (flen T == 0) <;> simp [ByteArray.size]
  have e0 : (p.kind == 0) = false := by rw [hk]; rfl
  have e1 : (p.kind == 1) = false := by rw [hk]; rfl
  have e2 : (p.kind == 2) = false := by rw [hk]; rfl
  have e3 : (p.kind == 3) = false := by rw [hk]; rfl
  have e4 : (p.kind == 4) = true := by rw [hk]; rfl
  have e5 : (p.kind == 5) = false := by rw [hk]; rfl
  have e6 : (p.kind == 6) = false := by rw [hk]; rfl
  have e7 : (p.kind == 7) = false := by rw [hk]; rfl
  have e8 : (p.kind == 8) = false := by rw [hk]; rfl
  have CS := hide (fun w' h => osame_any ⟨0, p.flag, p.num, ⟨#[]⟩, p.keys⟩ zpay T .nil ka none kc 0 ia none ic 0 w' ((OIn.below (w := w) (w' := w') h hin).mod p.flag (Or.inl rfl) (Or.inr rfl)) (zin w'))
  have HB := hide (((Below.refl w.heap.size w).alloc (Nat.le_refl _) (.cells (obox p ka kc ia (flen T) ic) 39)).alloc (by simp) (.cells #[.int .i64 0, .bool p.flag, .int .i64 p.num, .string ⟨#[]⟩, .slice ka p.keys.length kc, .slice ia (flen T) ic] 39))
  rw [hV]
  generalize sameV ⟨0, p.flag, p.num, ⟨#[]⟩, p.keys⟩ T zpay .nil = S at CS
  clear hV hk hin
  have CI := hide (fun w => oname_any p.text w)
  generalize nameB p.text.data.toList = I at CI ⊢
  cases I
  all_goals
    go_enter Tryd.func46, Tryd.ntmps46
    go_wp2_with (first | (go_at_call 59; refine (CI.out _).mono ?_; rintro e wx ⟨rfl, rfl⟩) | (go_at_call 61; refine (CS.out _ HB.out).mono ?_; rintro e wy ⟨rfl, hy⟩))
    all_goals
      go_ret
      first | exact ⟨rfl, below_t5 HB.out hy⟩ | exact ⟨rfl, HB.out⟩ | exact ⟨by simp, below_t5 HB.out hy⟩ | exact ⟨by simp, HB.out⟩
set_option maxRecDepth 8000 in
set_option maxHeartbeats 4000000 in
theorem fits_5 (p : Pay) (T : BT Pay) (ka : Option Addr) (kc : Nat) (ia : Option Addr) (ic : Nat) (w : World) (hin : OIn w p T ka kc ia ic) (hk : p.kind = 5) :
    Calls Tryd.prog 46 #[ov p ka kc ia (flen T) ic] w fun e w' => e = .returned (.bool (flatV p (flen T))) ∧ Below w.heap.size w w' := by
  have hV : flatV p (flen T) = (decide (p.text.size ≤ 65536) && sameV ⟨0, p.flag, p.num, ⟨#[]⟩, p.keys⟩ T zpay .nil) := by
    rw [same_z]
    unfold flatV
    rw [hk]
    simp only [bne]
    generalize decide (p.text.size ≤ 65536) = Z
    cases p.flag <;> cases (p.num == 0) <;> cases (p.text.size == 0) <;> cases (p.keys.length == 0) <;> cases (flen T == 0) <;> simp [ByteArray.size]
  have e0 : (p.kind == 0) = false := by rw [hk]; rfl
  have e1 : (p.kind == 1) = false := by rw [hk]; rfl
  have e2 : (p.kind == 2) = false := by rw [hk]; rfl
  have e3 : (p.kind == 3) = false := by rw [hk]; rfl
  have e4 : (p.kind == 4) = false := by rw [hk]; rfl
  have e5 : (p.kind == 5) = true := by rw [hk]; rfl
  have e6 : (p.kind == 6) = false := by rw [hk]; rfl
  have e7 : (p.kind == 7) = false := by rw [hk]; rfl
  have e8 : (p.kind == 8) = false := by rw [hk]; rfl
  have CS := hide (fun w' h => osame_any ⟨0, p.flag, p.num, ⟨#[]⟩, p.keys⟩ zpay T .nil ka none kc 0 ia none ic 0 w' ((OIn.below (w := w) (w' := w') h hin).mod p.flag (Or.inl rfl) (Or.inr rfl)) (zin w'))
  have HB := hide (((Below.refl w.heap.size w).alloc (Nat.le_refl _) (.cells (obox p ka kc ia (flen T) ic) 39)).alloc (by simp) (.cells #[.int .i64 0, .bool p.flag, .int .i64 p.num, .string ⟨#[]⟩, .slice ka p.keys.length kc, .slice ia (flen T) ic] 39))
  rw [hV]
  generalize sameV ⟨0, p.flag, p.num, ⟨#[]⟩, p.keys⟩ T zpay .nil = S at CS
  clear hV hk hin
  have hD : decide (p.text.size ≤ 65536) = decide ((p.text.size : Int) ≤ 65536) := by simp; omega
  rw [hD]
  cases h5 : decide ((p.text.size : Int) ≤ 65536)
  all_goals
    go_enter Tryd.func46, Tryd.ntmps46
    go_wp2_with (go_at_call 61; refine (CS.out _ HB.out).mono ?_; rintro e wy ⟨rfl, hy⟩)
    all_goals
      go_ret
      first | exact ⟨rfl, below_t5 HB.out hy⟩ | exact ⟨rfl, HB.out⟩ | exact ⟨by simp, below_t5 HB.out hy⟩ | exact ⟨by simp, HB.out⟩
set_option maxRecDepth 8000 in
set_option maxHeartbeats 4000000 in
theorem fits_6 (p : Pay) (T : BT Pay) (ka : Option Addr) (kc : Nat) (ia : Option Addr) (ic : Nat) (w : World) (hin : OIn w p T ka kc ia ic) (hk : p.kind = 6) :
    Calls Tryd.prog 46 #[ov p ka kc ia (flen T) ic] w fun e w' => e = .returned (.bool (flatV p (flen T))) ∧ Below w.heap.size w w' := by
  have hV : flatV p (flen T) = (true && sameV ⟨0, p.flag, p.num, p.text, p.keys⟩ .nil zpay .nil) := by
    rw [same_z]
    unfold flatV
    rw [hk]
    simp only [bne]
    cases p.flag <;> cases (p.num == 0) <;> cases (p.text.size == 0) <;> cases (p.keys.length == 0) <;> cases (flen T == 0) <;> simp [flen]
  have e0 : (p.kind == 0) = false := by rw [hk]; rfl
  have e1 : (p.kind == 1) = false := by rw [hk]; rfl
  have e2 : (p.kind == 2) = false := by rw [hk]; rfl
  have e3 : (p.kind == 3) = false := by rw [hk]; rfl
  have e4 : (p.kind == 4) = false := by rw [hk]; rfl
  have e5 : (p.kind == 5) = false := by rw [hk]; rfl
  have e6 : (p.kind == 6) = true := by rw [hk]; rfl
  have e7 : (p.kind == 7) = false := by rw [hk]; rfl
  have e8 : (p.kind == 8) = false := by rw [hk]; rfl
  have CS := hide (fun w' h => osame_any ⟨0, p.flag, p.num, p.text, p.keys⟩ zpay .nil .nil ka none kc 0 none none 0 0 w' (((OIn.below (w := w) (w' := w') h hin).mod p.flag (Or.inl rfl) (Or.inl rfl)).noItems) (zin w'))
  have HB := hide (((Below.refl w.heap.size w).alloc (Nat.le_refl _) (.cells (obox p ka kc ia (flen T) ic) 39)).alloc (by simp) (.cells #[.int .i64 0, .bool p.flag, .int .i64 p.num, .string p.text, .slice ka p.keys.length kc, .slice none 0 0] 39))
  rw [hV]
  generalize sameV ⟨0, p.flag, p.num, p.text, p.keys⟩ .nil zpay .nil = S at CS
  clear hV hk hin
  go_enter Tryd.func46, Tryd.ntmps46
  go_wp2_with (go_at_call 61; refine (CS.out _ HB.out).mono ?_; rintro e wy ⟨rfl, hy⟩)
  all_goals
    go_ret
    first | exact ⟨rfl, below_t5 HB.out hy⟩ | exact ⟨rfl, HB.out⟩ | exact ⟨by simp, below_t5 HB.out hy⟩ | exact ⟨by simp, HB.out⟩
set_option maxRecDepth 8000 in
set_option maxHeartbeats 4000000 in
theorem fits_8 (p : Pay) (T : BT Pay) (ka : Option Addr) (kc : Nat) (ia : Option Addr) (ic : Nat) (w : World) (hin : OIn w p T ka kc ia ic) (hk : p.kind = 8) :
    Calls Tryd.prog 46 #[ov p ka kc ia (flen T) ic] w fun e w' => e = .returned (.bool (flatV p (flen T))) ∧ Below w.heap.size w w' := by
  have hV : flatV p (flen T) = (decide (1 ≤ p.num ∧ p.num ≤ 4096) && sameV ⟨0, p.flag, 0, p.text, p.keys⟩ T zpay .nil) := by
    rw [same_z]
    unfold flatV
    rw [hk]
    simp only [bne]
    cases p.flag <;> cases (p.num == 0) <;> cases (p.text.size == 0) <;> cases (p.keys.length == 0) <;> cases (flen T == 0) <;> simp
  have e0 : (p.kind == 0) = false := by rw [hk]; rfl
  have e1 : (p.kind == 1) = false := by rw [hk]; rfl
  have e2 : (p.kind == 2) = false := by rw [hk]; rfl
  have e3 : (p.kind == 3) = false := by rw [hk]; rfl
  have e4 : (p.kind == 4) = false := by rw [hk]; rfl
  have e5 : (p.kind == 5) = false := by rw [hk]; rfl
  have e6 : (p.kind == 6) = false := by rw [hk]; rfl
  have e7 : (p.kind == 7) = false := by rw [hk]; rfl
  have e8 : (p.kind == 8) = true := by rw [hk]; rfl
  have CS := hide (fun w' h => osame_any ⟨0, p.flag, 0, p.text, p.keys⟩ zpay T .nil ka none kc 0 ia none ic 0 w' ((OIn.below (w := w) (w' := w') h hin).mod p.flag (Or.inr rfl) (Or.inl rfl)) (zin w'))
  have HB := hide (((Below.refl w.heap.size w).alloc (Nat.le_refl _) (.cells (obox p ka kc ia (flen T) ic) 39)).alloc (by simp) (.cells #[.int .i64 0, .bool p.flag, .int .i64 0, .string p.text, .slice ka p.keys.length kc, .slice ia (flen T) ic] 39))
  rw [hV]
  generalize sameV ⟨0, p.flag, 0, p.text, p.keys⟩ T zpay .nil = S at CS
  clear hV hk hin
  rw [Bool.decide_and]
  cases h1 : decide (1 ≤ p.num) <;> cases h2 : decide (p.num ≤ 4096)
  all_goals
    go_enter Tryd.func46, Tryd.ntmps46
    go_wp2_with (go_at_call 61; refine (CS.out _ HB.out).mono ?_; rintro e wy ⟨rfl, hy⟩)
    all_goals
      go_ret
      first | exact ⟨rfl, below_t5 HB.out hy⟩ | exact ⟨rfl, HB.out⟩ | exact ⟨by simp, below_t5 HB.out hy⟩ | exact ⟨by simp, HB.out⟩
set_option maxRecDepth 8000 in
set_option maxHeartbeats 4000000 in
theorem fits_7 (p : Pay) (T : BT Pay) (ka : Option Addr) (kc : Nat) (ia : Option Addr) (ic : Nat) (w : World) (hin : OIn w p T ka kc ia ic) (hk : p.kind = 7) :
    Calls Tryd.prog 46 #[ov p ka kc ia (flen T) ic] w fun e w' => e = .returned (.bool (flatV p (flen T))) ∧ Below w.heap.size w w' := by
  have hV : flatV p (flen T) = ((decide (p.keys.length = flen T) && keysB [] p.keys) && sameV ⟨0, p.flag, p.num, p.text, []⟩ .nil zpay .nil) := by
    rw [same_z]
    unfold flatV
    rw [hk]
    simp only [bne]
    cases p.flag <;> cases (p.num == 0) <;> cases (p.text.size == 0) <;> cases (p.keys.length == 0) <;> cases (flen T == 0) <;> simp [flen]
  have e0 : (p.kind == 0) = false := by rw [hk]; rfl
  have e1 : (p.kind == 1) = false := by rw [hk]; rfl
  have e2 : (p.kind == 2) = false := by rw [hk]; rfl
  have e3 : (p.kind == 3) = false := by rw [hk]; rfl
  have e4 : (p.kind == 4) = false := by rw [hk]; rfl
  have e5 : (p.kind == 5) = false := by rw [hk]; rfl
  have e6 : (p.kind == 6) = false := by rw [hk]; rfl
  have e7 : (p.kind == 7) = true := by rw [hk]; rfl
  have e8 : (p.kind == 8) = false := by rw [hk]; rfl
  have CS := hide (fun w' h => osame_any ⟨0, p.flag, p.num, p.text, []⟩ zpay .nil .nil none none 0 0 none none 0 0 w' (((OIn.below (w := w) (w' := w') h hin).mod p.flag (Or.inl rfl) (Or.inl rfl)).noItems.noKeys) (zin w'))
  have HB := hide (((Below.refl w.heap.size w).alloc (Nat.le_refl _) (.cells (obox p ka kc ia (flen T) ic) 39)).alloc (by simp) (.cells #[.int .i64 0, .bool p.flag, .int .i64 p.num, .string p.text, .slice ka p.keys.length kc, .slice ia (flen T) ic] 39))
  have HB2 := hide (((Below.refl w.heap.size w).alloc (Nat.le_refl _) (.cells (obox p ka kc ia (flen T) ic) 39)).alloc (by simp) (.cells #[.int .i64 0, .bool p.flag, .int .i64 p.num, .string p.text, .slice none 0 0, .slice none 0 0] 39))
  have CK := hide (fun w' h => areKeys_any ka p.keys kc w' (Strs.below (w := w) (w' := w') hin.2.1.1 h) (by have := hin.2.1.2.1; omega) hin.1.2.2.2)
  rw [hV]
  generalize sameV ⟨0, p.flag, p.num, p.text, []⟩ .nil zpay .nil = S at CS
  generalize keysB [] p.keys = KB at CK
  have hl1 : (flen T : Int) ≤ 9223372036854775807 := by have h := hin.2.2.1; have h' := hin.2.2.2.1; omega
  have hl3 : (p.keys.length : Int) ≤ 9223372036854775807 := by have h := hin.2.1.2.1; have h' := hin.2.1.2.2; omega
  have hD : decide (p.keys.length = flen T) = ((p.keys.length : Int) == (flen T : Int)) := by rw [Bool.eq_iff_iff, decide_eq_true_iff, beq_iff_eq]; omega
  rw [hD]
  have HR : Hid (Blk ((w.alloc (.cells (obox p ka kc ia (flen T) ic) 39)).alloc (.cells #[.int .i64 0, .bool p.flag, .int .i64 p.num, .string p.text, .slice ka p.keys.length kc, .slice ia (flen T) ic] 39)) (w.heap.size + 1) #[.int .i64 0, .bool p.flag, .int .i64 p.num, .string p.text, .slice ka p.keys.length kc, .slice ia (flen T) ic] 39) := hide (by
    have := Blk.new (w.alloc (.cells (obox p ka kc ia (flen T) ic) 39)) #[.int .i64 0, .bool p.flag, .int .i64 p.num, .string p.text, .slice ka p.keys.length kc, .slice ia (flen T) ic] 39
    rwa [show (w.alloc (.cells (obox p ka kc ia (flen T) ic) 39)).heap.size = w.heap.size + 1 by simp] at this)
  clear hV hk hin hD
  cases hE : ((p.keys.length : Int) == (flen T : Int))
  · go_enter Tryd.func46, Tryd.ntmps46
    go_wp2_with fail
    go_ret
    exact ⟨by simp, HB2.out⟩
  cases KB
  all_goals
    go_enter Tryd.func46, Tryd.ntmps46
    go_wp2_with (first | (go_at_call 60; refine (CK.out _ HB.out).mono ?_; rintro e wx ⟨rfl, hx⟩; have HX := hide hx; obtain ⟨⟨r0, r1, r2, r3, r4, r5⟩, ⟨y0, y1, y2, y3, y4, y5⟩⟩ := (HR.out.below hx).six; clear hx) | (go_at_call 61; refine (CS.out _ ?_).mono ?_; exact ((below_t5 HB.out HX.out).setCell (p := ⟨w.heap.size + 1, 4, none⟩) (by simp) _).setCell (p := ⟨w.heap.size + 1, 5, none⟩) (by simp) _; rintro e wy ⟨rfl, hy⟩))
    go_ret
    first | exact ⟨by simp, below_t5 (((below_t5 HB.out HX.out).setCell (p := ⟨w.heap.size + 1, 4, none⟩) (by simp) _).setCell (p := ⟨w.heap.size + 1, 5, none⟩) (by simp) _) hy⟩ | exact ⟨by simp, ((below_t5 HB.out HX.out).setCell (p := ⟨w.heap.size + 1, 4, none⟩) (by simp) _).setCell (p := ⟨w.heap.size + 1, 5, none⟩) (by simp) _⟩
set_option maxRecDepth 8000 in
set_option maxHeartbeats 4000000 in
theorem fits_none (p : Pay) (T : BT Pay) (ka : Option Addr) (kc : Nat) (ia : Option Addr) (ic : Nat) (w : World) (hk : ∀ j : Int, 0 ≤ j → j ≤ 8 → p.kind ≠ j) :
    Calls Tryd.prog 46 #[ov p ka kc ia (flen T) ic] w fun e w' => e = .returned (.bool (flatV p (flen T))) ∧ Below w.heap.size w w' := by
  have hV : flatV p (flen T) = false := by
    unfold flatV
    have h0 := hk 0 (by omega) (by omega)
    have h1 := hk 1 (by omega) (by omega)
    have h2 := hk 2 (by omega) (by omega)
    have h3 := hk 3 (by omega) (by omega)
    have h4 := hk 4 (by omega) (by omega)
    have h5 := hk 5 (by omega) (by omega)
    have h6 := hk 6 (by omega) (by omega)
    have h7 := hk 7 (by omega) (by omega)
    have h8 := hk 8 (by omega) (by omega)
    rw [if_neg h2, if_neg h3, if_neg h4, if_neg h5, if_neg h7, if_neg h8]
    simp [h0, h1, h6]
  have e0 : (p.kind == 0) = false := by rw [beq_eq_false_iff_ne]; exact hk 0 (by omega) (by omega)
  have e1 : (p.kind == 1) = false := by rw [beq_eq_false_iff_ne]; exact hk 1 (by omega) (by omega)
  have e2 : (p.kind == 2) = false := by rw [beq_eq_false_iff_ne]; exact hk 2 (by omega) (by omega)
  have e3 : (p.kind == 3) = false := by rw [beq_eq_false_iff_ne]; exact hk 3 (by omega) (by omega)
  have e4 : (p.kind == 4) = false := by rw [beq_eq_false_iff_ne]; exact hk 4 (by omega) (by omega)
  have e5 : (p.kind == 5) = false := by rw [beq_eq_false_iff_ne]; exact hk 5 (by omega) (by omega)
  have e6 : (p.kind == 6) = false := by rw [beq_eq_false_iff_ne]; exact hk 6 (by omega) (by omega)
  have e7 : (p.kind == 7) = false := by rw [beq_eq_false_iff_ne]; exact hk 7 (by omega) (by omega)
  have e8 : (p.kind == 8) = false := by rw [beq_eq_false_iff_ne]; exact hk 8 (by omega) (by omega)
  have HB := hide (((Below.refl w.heap.size w).alloc (Nat.le_refl _) (.cells (obox p ka kc ia (flen T) ic) 39)).alloc (by simp) (.cells #[.int .i64 0, .bool p.flag, .int .i64 p.num, .string p.text, .slice ka p.keys.length kc, .slice ia (flen T) ic] 39))
  rw [hV]
  clear hV hk
  go_enter Tryd.func46, Tryd.ntmps46
  go_wp2_with fail
  go_ret
  exact ⟨rfl, HB.out⟩
theorem fits_any (p : Pay) (T : BT Pay) (ka : Option Addr) (kc : Nat) (ia : Option Addr) (ic : Nat) (w : World) (hin : OIn w p T ka kc ia ic) :
    Calls Tryd.prog 46 #[ov p ka kc ia (flen T) ic] w fun e w' => e = .returned (.bool (flatV p (flen T))) ∧ Below w.heap.size w w' := by
  by_cases h0 : p.kind = 0
  · exact fits_0 p T ka kc ia ic w hin h0
  by_cases h1 : p.kind = 1
  · exact fits_1 p T ka kc ia ic w hin h1
  by_cases h2 : p.kind = 2
  · exact fits_2 p T ka kc ia ic w hin h2
  by_cases h3 : p.kind = 3
  · exact fits_3 p T ka kc ia ic w hin h3
  by_cases h4 : p.kind = 4
  · exact fits_4 p T ka kc ia ic w hin h4
  by_cases h5 : p.kind = 5
  · exact fits_5 p T ka kc ia ic w hin h5
  by_cases h6 : p.kind = 6
  · exact fits_6 p T ka kc ia ic w hin h6
  by_cases h7 : p.kind = 7
  · exact fits_7 p T ka kc ia ic w hin h7
  by_cases h8 : p.kind = 8
  · exact fits_8 p T ka kc ia ic w hin h8
  exact fits_none p T ka kc ia ic w fun j a b => by omega
end Go.Proofs.YtlnkddmpcicejaaDoor
