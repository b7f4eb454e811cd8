/-
  Joined: O5Rd, O5Wrd, O5WrdR, O5Obj, O5Arr, O5ObjA, O5Par, O5Wak, O5Lrg, O5LGet.
-/
import Derived.Test.YtalmcdbdibpgkaaGreatDoorBB
import Derived.Deep.RegionHeld3
import Derived.Deep.QuietTactic
import Derived.BigQuiet
import Derived.Deep.LoopGhost
import Derived.Test.YtalmcdbdibpgkaaGreatDoorBA
import Derived.Deep.RegionLaw
import Derived.LoopN
import Derived.Defers
import Derived.Recover
import Derived.Laws.Pointers
import Derived.BigRegion
/-
  What the landed reader's small methods answer: passBlanks, take, atEnd.
-/
namespace Go.Proofs.YtalmcdbdibpgkaaGreatDoor
open Go.RowKit Go.Deep

/- the reader in the block b: the text, the place, how many are left -/
def RAt (w : World) (b : Nat) (s : ByteArray) (a : Nat) (l : Int) : Prop := Blk w b #[.string s, .int .i64 a, .int .i64 l] 50
theorem RAt.at1 {w : World} {b : Nat} {s : ByteArray} {a : Nat} {l : Int} (h : RAt w b s a l) (a' : Nat) : RAt (w.setCell ⟨b, 1, none⟩ (.int .i64 a')) b s a' l := Blk.set h 1 (.int .i64 a')
theorem RAt.three {w : World} {b : Nat} {s : ByteArray} {a : Nat} {l : Int} (h : RAt w b s a l) : (w.cell? ⟨b, 0, none⟩ = some (.string s) ∧ w.cell? ⟨b, 1, none⟩ = some (.int .i64 a) ∧ w.cell? ⟨b, 2, none⟩ = some (.int .i64 l)) ∧ w.frozen? ⟨b, 0, none⟩ = false ∧ w.frozen? ⟨b, 1, none⟩ = false ∧ w.frozen? ⟨b, 2, none⟩ = false :=
  ⟨⟨Blk.cell h 0, Blk.cell h 1, Blk.cell h 2⟩, Blk.frozen h 0, Blk.frozen h 1, Blk.frozen h 2⟩
theorem But.drewN {b : Nat} {w w' : World} (h : But b w w') (n : Nat) : But b w (w'.drewN n) := h.trans (But.of_below (below_drewN' _ n))
theorem RAt.drewN {w : World} {b : Nat} {s : ByteArray} {a : Nat} {l : Int} (h : RAt w b s a l) (n : Nat) : RAt (w.drewN n) b s a l := Blk.below h (below_drewN' _ n)

set_option maxRecDepth 8000 in
set_option maxHeartbeats 4000000 in
theorem take_hit (b : Nat) (s p : ByteArray) (a : Nat) (l : Int) (w : World) (h : RAt w b s a l) (hs : s.size ≤ 16777216) (ha : a ≤ s.size) (hp : p.size ≤ 16) (t : Bool) (ht : Lib.hasPrefix (s.data.toList.drop a) p.data.toList = t) :
    Calls Tryz.prog 42 #[.pointer (some ⟨b, 0, none⟩), .string p] w fun e w' => e = .returned (.bool t) ∧ But b w w' ∧ RAt w' b s (if t then a + p.size else a) l := by
  obtain ⟨⟨c0, c1, c2⟩, z0, z1, z2⟩ := h.three
  have hx : (s.extract a s.size).data.toList = s.data.toList.drop a := by
    rw [Lib.extract_data, List.take_of_length_le (by rw [List.length_drop, ← Lib.size_eq]; exact Nat.le_refl _)]
  have C : Hid (∀ w, Calls Tryz.prog 70 #[.string (s.extract a s.size), .string p] w fun e w' => e = .returned (.bool t) ∧ w' = w) := hide (fun w => by
    have := Any.strings_HasPrefix lays99 (s.extract a s.size) p w
    rwa [hx, ht] at this)
  have H := hide h
  have ha' : (a : Int) ≤ (s.size : Int) := by omega
  have ha0 : (0 : Int) ≤ (a : Int) := by omega
  have hs' : (s.size : Int) ≤ 16777216 := by omega
  have hp' : (p.size : Int) ≤ 16 := by omega
  clear h hx ht ha hs hp
  cases t
  · go_enter Tryz.func42, Tryz.ntmps42
    go_wp2_with fail
    go_quiet ((go_at_call 70; refine Calls.quiet_of_same (C.out _)))
    go_wp2_with fail
    go_ret
    exact ⟨rfl, (But.refl _ _).drewN _, H.out.drewN _⟩
  · go_enter Tryz.func42, Tryz.ntmps42
    go_wp2_with fail
    go_quiet ((go_at_call 70; refine Calls.quiet_of_same (C.out _)))
    go_wp2_with fail
    go_ret
    exact ⟨rfl, ((But.refl _ _).drewN _).trans (But.setCell b _ 1 _), (H.out.drewN nq).at1 (a + p.size)⟩
set_option maxRecDepth 8000 in
set_option maxHeartbeats 4000000 in
theorem pass_any (b : Nat) (s : ByteArray) (a : Nat) (l : Int) (w : World) (h : RAt w b s a l) (hs : s.size ≤ 16777216) (ha : a ≤ s.size) :
    Calls Tryz.prog 41 #[.pointer (some ⟨b, 0, none⟩)] w fun e w' => e = .returned (.tuple #[]) ∧ But b w w' ∧ RAt w' b s (blanksV s.data.toList a) l := by
  obtain ⟨R, hR⟩ : ∃ R, blanksV s.data.toList a = R := ⟨_, rfl⟩
  rw [hR]
  have HR := hide hR
  have HH := hide h
  have hs' : (s.size : Int) ≤ 16777216 := by omega
  clear hR hs h
  go_enter Tryz.func41, Tryz.ntmps41
  go_wp2_with fail
  go_loopg [2] (s.size - a) (fun g _ wr => ∃ k : Nat, Hid (k ≤ s.size ∧ g = s.size - k ∧ blanksV s.data.toList k = R ∧ But b w wr ∧ RAt wr b s k l))
  case atStart => exact ⟨a, hide ⟨ha, rfl, HR.out, But.refl _ _, HH.out⟩⟩
  case round =>
    obtain ⟨k, HK⟩ := hrel
    obtain ⟨k1, kg, k2, k3, k4⟩ := HK.out
    clear HK HR HH
    obtain ⟨⟨c0, c1, c2⟩, z0, z1, z2⟩ := k4.three
    have H3 := hide k3
    have H4 := hide k4
    have hk0 : (0 : Int) ≤ (k : Int) := by omega
    have HG := hide kg
    clear kg k3 k4
    by_cases hlt : k < s.size
    · have hlt' : (k : Int) < (s.size : Int) := by omega
      have hst : blanksV s.data.toList k = if isBl s[k].toNat then blanksV s.data.toList (k + 1) else k := by
        unfold blanksV
        rw [drop_at s k hlt, run]
        split <;> omega
      have CB := hide (fun w => oblank_any s[k].toNat w s[k].toNat_lt)
      cases hb : isBl s[k].toNat
      · rw [hb, if_neg (by simp), k2] at hst
        subst hst
        rw [hb] at CB
        clear k2 hb
        go_wp2_with fail
        go_quiet ((go_at_call 69; refine Calls.quiet_of_same (CB.out _)))
        go_wp2_with fail
        go_end0
        exact ⟨rfl, H3.out.drewN _, H4.out.drewN _⟩
      · rw [hb, if_pos rfl, k2] at hst
        have K := hide hst.symm
        rw [hb] at CB
        clear k2 hb hst
        go_wp2_with fail
        go_quiet ((go_at_call 69; refine Calls.quiet_of_same (CB.out _)))
        go_wp2_with fail
        go_roundg (s.size - (k + 1))
        case measure => have := HG.out; omega
        case rel => exact ⟨k + 1, hide ⟨by omega, rfl, K.out, (H3.out.drewN _).trans (But.setCell b _ 1 _), (H4.out.drewN _).at1 (k + 1)⟩⟩
    · have hlt' : decide ((k : Int) < (s.size : Int)) = false := by simp; omega
      have hst : blanksV s.data.toList k = k := by
        unfold blanksV
        rw [List.drop_eq_nil_of_le (by rw [← Lib.size_eq]; omega)]
        rfl
      rw [k2] at hst
      subst hst
      clear k2
      go_wp2_with fail
      go_quiet (fail)
      go_wp2_with fail
      go_end0
      exact ⟨rfl, H3.out.drewN _, H4.out.drewN _⟩
/- does a word or a name end here? -/
def endV (l : List UInt8) (k : Nat) : Bool := match l.drop k with | [] => true | c :: _ => isEnd c.toNat
set_option maxRecDepth 8000 in
set_option maxHeartbeats 4000000 in
theorem atEnd_any (b : Nat) (s : ByteArray) (a : Nat) (l : Int) (w : World) (h : RAt w b s a l) (hs : s.size ≤ 16777216) (ha : a ≤ s.size) :
    Calls Tryz.prog 74 #[.pointer (some ⟨b, 0, none⟩)] w fun e w' => e = .returned (.bool (endV s.data.toList a)) ∧ ∃ n, w' = w.drewN n := by
  obtain ⟨⟨c0, c1, c2⟩, z0, z1, z2⟩ := h.three
  have hs' : (s.size : Int) ≤ 16777216 := by omega
  have ha0 : (0 : Int) ≤ (a : Int) := by omega
  clear hs h
  by_cases hlt : a < s.size
  · have hlt' : (a : Int) < (s.size : Int) := by omega
    have hne : ((a : Int) == (s.size : Int)) = false := by rw [beq_eq_false_iff_ne]; omega
    have he : endV s.data.toList a = (isBl s[a].toNat || isDl s[a].toNat) := by
      unfold endV
      rw [drop_at s a hlt]
      rfl
    rw [he]
    have CB := hide (fun w => oblank_any s[a].toNat w s[a].toNat_lt)
    have CD := hide (fun w => odelim_any s[a].toNat w s[a].toNat_lt)
    generalize isBl s[a].toNat = x at CB
    generalize isDl s[a].toNat = y at CD
    clear he
    cases x
    · go_enter Tryz.func74, Tryz.ntmps74
      go_wp2_with fail
      go_quiet ((first | (go_at_call 69; refine Calls.quiet_of_same (CB.out _)) | (go_at_call 89; refine Calls.quiet_of_same (CD.out _))))
      go_wp2_with fail
      go_ret
      exact ⟨by simp, _, rfl⟩
    · go_enter Tryz.func74, Tryz.ntmps74
      go_wp2_with fail
      go_quiet ((first | (go_at_call 69; refine Calls.quiet_of_same (CB.out _)) | (go_at_call 89; refine Calls.quiet_of_same (CD.out _))))
      go_wp2_with fail
      go_ret
      exact ⟨by simp, _, rfl⟩
  · have hae : a = s.size := by omega
    have hne : ((a : Int) == (s.size : Int)) = true := by rw [beq_iff_eq]; omega
    have he : endV s.data.toList a = true := by
      unfold endV
      rw [List.drop_eq_nil_of_le (by rw [← Lib.size_eq]; omega)]
    rw [he]
    clear he hae
    go_enter Tryz.func74, Tryz.ntmps74
    go_wp2_with fail
    go_quiet (fail)
    go_wp2_with fail
    go_ret
    exact ⟨rfl, _, rfl⟩
end Go.Proofs.YtalmcdbdibpgkaaGreatDoor
/-
  What the landed reader's takeWord, takeRefEnd and word answer (word: at the text of a reference).
-/
namespace Go.Proofs.YtalmcdbdibpgkaaGreatDoor
open Go.RowKit Go.Deep

theorem hasP_len {l p : List UInt8} (h : Lib.hasPrefix l p = true) : p.length ≤ l.length := by
  unfold Lib.hasPrefix at h
  rw [List.isPrefixOf_iff_prefix] at h
  exact h.length_le
def twV (l p : List UInt8) (a : Nat) : Bool := Lib.hasPrefix (l.drop a) p && endV l (a + p.length)
theorem takeWord_any (b : Nat) (s p : ByteArray) (a : Nat) (l : Int) (w : World) (h : RAt w b s a l) (hs : s.size ≤ 16777216) (ha : a ≤ s.size) (hp : p.size ≤ 16) :
    Calls Tryz.prog 95 #[.pointer (some ⟨b, 0, none⟩), .string p] w fun e w' => e = .returned (.bool (twV s.data.toList p.data.toList a)) ∧ But b w w' ∧ ∃ a', a' ≤ s.size ∧ RAt w' b s a' l ∧ (twV s.data.toList p.data.toList a = true → a' = a + p.size) := by
  cases ht : Lib.hasPrefix (s.data.toList.drop a) p.data.toList
  · have C := hide (take_hit b s p a l w h hs ha hp _ ht)
    have e : twV s.data.toList p.data.toList a = false := by unfold twV; rw [ht]; rfl
    rw [e]
    clear h ht e
    go_enter Tryz.func95, Tryz.ntmps95
    go_wp2_with (go_at_call 42; refine C.out.mono ?_; rintro e w1 ⟨rfl, h1, h2⟩; have H1 := hide h1; have H2 := hide h2; clear h1 h2)
    go_ret
    exact ⟨rfl, H1.out, a, ha, H2.out, fun h => by cases h⟩
  · have hl := hasP_len ht
    rw [List.length_drop, ← Lib.size_eq, ← Lib.size_eq] at hl
    have ha' : a + p.size ≤ s.size := by
      rcases Nat.eq_zero_or_pos p.size with h | h
      · omega
      · omega
    have C := hide (take_hit b s p a l w h hs ha hp _ ht)
    have CE := hide (fun w' (h' : RAt w' b s (a + p.size) l) => atEnd_any b s (a + p.size) l w' h' hs ha')
    have e : twV s.data.toList p.data.toList a = endV s.data.toList (a + p.size) := by unfold twV; rw [ht, Bool.true_and, ← Lib.size_eq]
    rw [e]
    generalize endV s.data.toList (a + p.size) = E at CE
    clear h ht e hl
    go_enter Tryz.func95, Tryz.ntmps95
    go_wp2_with (first | (go_at_call 42; refine C.out.mono ?_; rintro e w1 ⟨rfl, h1, h2⟩; have H1 := hide h1; have H2 := hide h2; clear h1 h2) | (go_at_call 74; refine (CE.out _ H2.out).mono ?_; rintro e w2 ⟨rfl, n, rfl⟩))
    go_ret
    exact ⟨by simp, H1.out.drewN _, a + p.size, ha', RAt.drewN H2.out _, fun _ => rfl⟩
theorem blanks_le (s : ByteArray) (a : Nat) (h : a ≤ s.size) : blanksV s.data.toList a ≤ s.size := by
  unfold blanksV
  have := run_le isBl (s.data.toList.drop a)
  rw [List.length_drop, ← Lib.size_eq] at this
  omega
theorem tw_le (s p : ByteArray) (a : Nat) (hp : 0 < p.size) (h : twV s.data.toList p.data.toList a = true) : a + p.size ≤ s.size := by
  unfold twV at h
  have := hasP_len (Bool.and_eq_true_iff.1 h).1
  rw [List.length_drop, ← Lib.size_eq, ← Lib.size_eq] at this
  omega
/- the end of what makes a reference of the integer ahead of it -/
def refV (l : List UInt8) (a : Nat) : Option Nat :=
  if twV l [48] (blanksV l a) = true then (if twV l [82] (blanksV l (blanksV l a + 1)) = true then some (blanksV l (blanksV l a + 1) + 1) else none) else none
set_option maxRecDepth 8000 in
set_option maxHeartbeats 4000000 in
theorem takeRefEnd_any (b : Nat) (s : ByteArray) (a : Nat) (l : Int) (w : World) (h : RAt w b s a l) (hs : s.size ≤ 16777216) (ha : a ≤ s.size) :
    Calls Tryz.prog 77 #[.pointer (some ⟨b, 0, none⟩)] w fun e w' => e = .returned (.bool (refV s.data.toList a).isSome) ∧ But b w w' ∧ RAt w' b s ((refV s.data.toList a).getD a) l := by
  obtain ⟨⟨c0, c1, c2⟩, z0, z1, z2⟩ := h.three
  have h1 := blanks_le s a ha
  have CP := hide (pass_any b s a l w h hs ha)
  have CT := hide (fun w' (h' : RAt w' b s (blanksV s.data.toList a) l) => takeWord_any b s ⟨#[48]⟩ _ l w' h' hs h1 (by decide))
  have hs' : (s.size : Int) ≤ 16777216 := by omega
  have ha0 : (0 : Int) ≤ (a : Int) := by omega
  obtain ⟨R, hR⟩ : ∃ R, refV s.data.toList a = R := ⟨_, rfl⟩
  rw [hR]
  unfold refV at hR
  have e48 : (⟨#[48]⟩ : ByteArray).data.toList = [48] := rfl
  have e82 : (⟨#[82]⟩ : ByteArray).data.toList = [82] := rfl
  rw [e48] at CT
  cases ht : twV s.data.toList [48] (blanksV s.data.toList a)
  · rw [ht, if_neg (by simp)] at hR
    subst hR
    rw [ht] at CT
    clear ht h h1
    go_enter Tryz.func77, Tryz.ntmps77
    go_wp2_with (first | (go_at_call 41; refine CP.out.mono ?_; rintro e w1 ⟨rfl, h1, h2⟩; have H1 := hide h1; have H2 := hide h2; clear h1 h2) | (go_at_call 95; refine (CT.out _ H2.out).mono ?_; rintro e w2 ⟨rfl, h3, a', h4, h5, h6⟩; have H3 := hide h3; have H5 := hide h5; obtain ⟨⟨d0, d1, d2⟩, y0, y1, y2⟩ := h5.three; clear h3 h4 h5 h6))
    go_ret
    exact ⟨rfl, (H1.out.trans H3.out).trans (But.setCell b _ 1 _), H5.out.at1 a⟩
  rw [ht, if_pos rfl] at hR
  have h2 : blanksV s.data.toList a + 1 ≤ s.size := tw_le s ⟨#[48]⟩ _ (by decide) ht
  rw [ht] at CT
  have CP2 := hide (fun w' (h' : RAt w' b s (blanksV s.data.toList a + 1) l) => pass_any b s _ l w' h' hs h2)
  have h3 := blanks_le s _ h2
  have CT2 := hide (fun w' (h' : RAt w' b s (blanksV s.data.toList (blanksV s.data.toList a + 1)) l) => takeWord_any b s ⟨#[82]⟩ _ l w' h' hs h3 (by decide))
  rw [e82] at CT2
  cases ht2 : twV s.data.toList [82] (blanksV s.data.toList (blanksV s.data.toList a + 1))
  · rw [ht2, if_neg (by simp)] at hR
    subst hR
    rw [ht2] at CT2
    clear ht ht2 h h1 h2 h3
    go_enter Tryz.func77, Tryz.ntmps77
    go_wp2_with fail
    refine CP.out.mono ?_
    rintro e w1 ⟨rfl, h1, h2⟩
    have H1 := hide h1
    have H2 := hide h2
    clear h1 h2
    go_wp2_with fail
    refine (CT.out _ H2.out).mono ?_
    rintro e w2 ⟨rfl, h3, a', h4, h5, h6⟩
    have h7 := h6 (by simp)
    subst h7
    have H3 := hide h3
    have H5 := hide h5
    clear h3 h4 h5 h6
    go_wp2_with fail
    refine (CP2.out _ H5.out).mono ?_
    rintro e w3 ⟨rfl, h1, h2⟩
    have H6 := hide h1
    have H7 := hide h2
    clear h1 h2
    go_wp2_with fail
    refine (CT2.out _ H7.out).mono ?_
    rintro e w4 ⟨rfl, h3, a'', h4, h5, h6⟩
    have H8 := hide h3
    have H9 := hide h5
    obtain ⟨⟨d0, d1, d2⟩, y0, y1, y2⟩ := h5.three
    clear h3 h4 h5 h6
    go_wp2_with fail
    go_ret
    exact ⟨rfl, (((H1.out.trans H3.out).trans H6.out).trans H8.out).trans (But.setCell b _ 1 _), H9.out.at1 a⟩
  · rw [ht2, if_pos rfl] at hR
    subst hR
    rw [ht2] at CT2
    clear ht ht2 h h1 h2 h3
    go_enter Tryz.func77, Tryz.ntmps77
    go_wp2_with fail
    refine CP.out.mono ?_
    rintro e w1 ⟨rfl, h1, h2⟩
    have H1 := hide h1
    have H2 := hide h2
    clear h1 h2
    go_wp2_with fail
    refine (CT.out _ H2.out).mono ?_
    rintro e w2 ⟨rfl, h3, a', h4, h5, h6⟩
    have h7 := h6 (by simp)
    subst h7
    have H3 := hide h3
    have H5 := hide h5
    clear h3 h4 h5 h6
    go_wp2_with fail
    refine (CP2.out _ H5.out).mono ?_
    rintro e w3 ⟨rfl, h1, h2⟩
    have H6 := hide h1
    have H7 := hide h2
    clear h1 h2
    go_wp2_with fail
    refine (CT2.out _ H7.out).mono ?_
    rintro e w4 ⟨rfl, h3, a'', h4, h5, h6⟩
    have h7 := h6 (by simp)
    subst h7
    have H8 := hide h3
    have H9 := hide h5
    clear h3 h4 h5 h6
    go_wp2_with fail
    go_ret
    exact ⟨rfl, ((H1.out.trans H3.out).trans H6.out).trans H8.out, H9.out⟩
end Go.Proofs.YtalmcdbdibpgkaaGreatDoor
/-
  What the landed reader's word answers at the text of a reference.
-/
namespace Go.Proofs.YtalmcdbdibpgkaaGreatDoor
open Go.RowKit Go.Deep

theorem word_le (s : ByteArray) (a : Nat) (h : a ≤ s.size) : a ≤ wordV s.data.toList a ∧ wordV s.data.toList a ≤ s.size := by
  unfold wordV
  have := run_le (fun b => !isEnd b) (s.data.toList.drop a)
  rw [List.length_drop, ← Lib.size_eq] at this
  omega
theorem word_step (s : ByteArray) (k : Nat) : wordV s.data.toList k = if endV s.data.toList k then k else wordV s.data.toList (k + 1) := by
  unfold wordV endV
  rcases Nat.lt_or_ge k s.size with hl | hl
  · rw [drop_at s k hl, run]
    by_cases he : isEnd s[k].toNat = true
    · simp [he]
    · simp [he]; omega
  · rw [List.drop_eq_nil_of_le (by rw [← Lib.size_eq]; omega)]
    simp [run]
theorem atoi_any (W : ByteArray) (x : Int) (h : Lib.atoiAll W.data.toList = .ok x) (hW : W.size ≤ 16777216) (w : World) :
    Calls Tryz.prog 75 #[.string W] w fun e w' => e = .returned (.tuple #[.int .i64 x, .nilIface]) ∧ Below w.heap.size w w' := by
  refine (Any.strconv_Atoi_ok laysC172 W (by omega) x h w).mono ?_
  rintro e w' ⟨rfl, rfl | ⟨t, rfl⟩⟩
  · exact ⟨rfl, Below.refl _ _⟩
  · exact ⟨rfl, Lib.bytesWorld_below _ _ _⟩
theorem itoa_small (x : Nat) (h : x < 100) (w : World) : Calls Tryz.prog 76 #[.int .i64 x] w fun e w' => e = .returned (.string ⟨(Lib.decDigits x).toArray⟩) ∧ w' = w := Any.strconv_Itoa_small lays171 x h w
theorem But.more {b B : Nat} {w wf wg : World} (h : But b w wf) (hb : Below B wf wg) (hB : w.heap.size ≤ B) : But b w wg :=
  ⟨hb.os.trans h.os, hb.tape.trans h.tape, hb.output.trans h.output, Nat.le_trans h.size hb.size, fun k h1 h2 => (hb.block k (by omega)).trans (h.block k h1 h2)⟩
theorem st6_but {b B : Nat} {w wf : World} (h : But b w wf) (hB : w.heap.size ≤ B) (v0 v1 v2 v3 v4 v5 : Value) : But b w (st6 wf B v0 v1 v2 v3 v4 v5) :=
  h.more (st6_below (Below.refl w.heap.size wf) hB v0 v1 v2 v3 v4 v5) (Nat.le_refl _)
theorem st6_rat {b B : Nat} {wf : World} {s : ByteArray} {a : Nat} {l : Int} (h : RAt wf b s a l) (hne : b ≠ B) (v0 v1 v2 v3 v4 v5 : Value) : RAt (st6 wf B v0 v1 v2 v3 v4 v5) b s a l := (st6_block (w := wf) (b := B) (k := b) hne v0 v1 v2 v3 v4 v5).trans h
theorem word_fin {R : Ending → World → Prop} {a : Act} {w : World} {B : Nat} {v0 v1 v2 v3 v4 v5 : Value} {t : TypeId} (hk : Blk w B #[v0, v1, v2, v3, v4, v5] t) (h2 : a.tmps[2]?.getD undef = .pointer (some ⟨B, 0, none⟩)) (hd : a.defers = []) (h : R (.returned (.agg #[v0, v1, v2, v3, v4, v5])) w) :
    bodyPost Tryz.prog Tryz.f48 R Exit.ret a w := by
  obtain ⟨⟨f0, f1, f2, f3, f4, f5⟩, _⟩ := hk.six
  refine bodyPost_ret (v := .agg #[v0, v1, v2, v3, v4, v5]) ?_ hd h
  simp [results, Tryz.results48, go_sem, f0, f1, f2, f3, f4, f5, h2]
set_option maxRecDepth 8000 in
set_option maxHeartbeats 4000000 in
theorem word_ref (b : Nat) (s : ByteArray) (a : Nat) (l : Int) (w : World) (h : RAt w b s a l) (hs : s.size ≤ 16777216) (ha : a ≤ s.size) (E : Nat) (hE : wordV s.data.toList a = E) (W : ByteArray) (hW : s.extract a E = W) (x : Nat) (hx : x < 100)
    (n0 : (W.toList == [110, 117, 108, 108]) = false) (n1 : (W.toList == [116, 114, 117, 101]) = false) (n2 : (W.toList == [102, 97, 108, 115, 101]) = false) (hA : Lib.atoiAll W.data.toList = .ok (x : Int)) (hI : (⟨(Lib.decDigits x).toArray⟩ : ByteArray) = W) (e2 : Nat) (hr : refV s.data.toList E = some e2) :
    Calls Tryz.prog 48 #[.pointer (some ⟨b, 0, none⟩)] w fun e w' => e = .returned (ov ⟨8, false, x, ⟨#[]⟩, []⟩ none 0 none 0 0) ∧ But b w w' ∧ RAt w' b s e2 l := by
  have hEb := word_le s a ha
  rw [hE] at hEb
  have hlt : b < w.heap.size := Blk.lt h
  have hWs : W.size ≤ 16777216 := by
    rw [← hW]
    have : (s.extract a E).size = (s.extract a E).data.toList.length := Lib.size_eq _
    rw [this, Lib.extract_data, List.length_take]
    omega
  have CA := hide (fun w => atoi_any W x hA hWs w)
  have CI : Hid (∀ w, Calls Tryz.prog 76 #[.int .i64 (x : Int)] w fun e w' => e = .returned (.string W) ∧ w' = w) := hide (fun w => by rw [← hI]; exact itoa_small x hx w)
  have CR := hide (fun w' (h' : RAt w' b s E l) => takeRefEnd_any b s E l w' h' hs hEb.2)
  rw [hr] at CR
  have CE := hide (fun k w' (h' : RAt w' b s k l) (hk : k ≤ s.size) => atEnd_any b s k l w' h' hs hk)
  have hs' : (s.size : Int) ≤ 16777216 := by omega
  have H := hide h
  obtain ⟨⟨c0, c1, c2⟩, z0, z1, z2⟩ := h.three
  have HZ : Hid (Below w.heap.size w (w.alloc (.cells zobj 25))) := hide ((Below.refl _ _).alloc (Nat.le_refl _) _)
  have HK : Hid (Blk (w.alloc (.cells zobj 25)) w.heap.size zobj 25) := hide (Blk.new _ _ _)
  have HE := hide hE
  clear hA hI hr h hx hWs hE
  go_enter Tryz.func48, Tryz.ntmps48
  go_wp2_with fail
  go_loopg [13] (s.size - a) (fun g _ wr => ∃ k : Nat, Hid (k ≤ s.size ∧ g = s.size - k ∧ wordV s.data.toList k = E ∧ But b w wr ∧ RAt wr b s k l ∧ Blk wr w.heap.size zobj 25))
  case atStart => exact ⟨a, hide ⟨ha, rfl, HE.out, But.of_below HZ.out, Blk.below H.out HZ.out, HK.out⟩⟩
  case round =>
    obtain ⟨k, HV⟩ := hrel
    obtain ⟨k1, kg, k2, k3, k4, k5⟩ := HV.out
    clear HV c0 c1 c2 z0 z1 z2
    obtain ⟨⟨c0, c1, c2⟩, z0, z1, z2⟩ := k4.three
    have H3 := hide k3
    have H4 := hide k4
    have H5 := hide k5
    have HG := hide kg
    have hk0 : (0 : Int) ≤ (k : Int) := by omega
    have st := word_step s k
    rw [k2] at st
    clear kg k3 k4 k5 k2
    cases he : endV s.data.toList k
    · rw [he, if_neg (by simp)] at st
      have hk2 : k < s.size := by
        rcases Nat.lt_or_ge k s.size with h | h
        · exact h
        · unfold endV at he
          rw [List.drop_eq_nil_of_le (by rw [← Lib.size_eq]; omega)] at he
          cases he
      have ST := hide st
      clear st
      go_wp2_with (go_at_call 74; refine (CE.out k _ H4.out k1).mono ?_; rintro e w2 ⟨rfl, n, rfl⟩; rw [he])
      go_roundg (s.size - (k + 1))
      case measure => have := HG.out; omega
      case rel => exact ⟨k + 1, hide ⟨hk2, rfl, ST.out.symm, (H3.out.drewN _).trans (But.setCell b _ 1 _), (RAt.drewN H4.out _).at1 (k + 1), (Blk.below H5.out (below_drewN' _ _)).other (by omega) 1 _⟩⟩
    · rw [he, if_pos rfl] at st
      subst st
      have ha1 : (a : Int) ≤ (E : Int) := by omega
      have ha2 : (E : Int) ≤ (s.size : Int) := by omega
      have ha0 : (0 : Int) ≤ (a : Int) := by omega
      go_wp2_with (go_at_call 74; refine (CE.out E _ H4.out k1).mono ?_; rintro e w2 ⟨rfl, n, rfl⟩; rw [he])
      clear HE HK HZ H
      go_quiet (fail)
      go_wp2_with fail
      refine (CA.out _).mono ?_
      rintro e wa ⟨rfl, hya⟩
      have HYA := hide hya
      clear hya
      go_wp2_with (first | (go_at_call 76; refine (CI.out _).mono ?_; rintro e wi ⟨rfl, rfl⟩))
      have hbw : Below wr.heap.size wr wi := below_d5 (Below.refl _ _) HYA.out rfl rfl rfl rfl
      refine (CR.out _ (Blk.below H4.out hbw)).mono ?_
      rintro e wf ⟨rfl, h1, h2⟩
      have hk5 := (H5.out.below hbw).but h1 (by omega)
      have HBF := hide ((H3.out.trans (But.of_below hbw)).trans h1)
      have HRF := hide h2
      have HKF := hide hk5
      obtain ⟨⟨r0, r1, r2, r3, r4, r5⟩, ⟨y0, y1, y2, y3, y4, y5⟩⟩ := hk5.six
      clear h1 h2 hk5 hbw
      go_wp2_with fail
      refine word_fin (st6_blk HKF.out (.int .i64 8) (.bool false) (.int .i64 x) (.string ⟨#[]⟩) (.slice none 0 0) (.slice none 0 0)) rfl rfl ⟨rfl, st6_but HBF.out (Nat.le_refl _) _ _ _ _ _ _, st6_rat HRF.out (Nat.ne_of_lt hlt) _ _ _ _ _ _⟩
end Go.Proofs.YtalmcdbdibpgkaaGreatDoor
/-
  What the landed reader's object answers at the text of a reference.
-/
namespace Go.Proofs.YtalmcdbdibpgkaaGreatDoor
open Go.RowKit Go.Deep

theorem must_t (w : World) : Calls Tryz.prog 40 #[.bool true] w fun e w' => e = .returned (.tuple #[]) ∧ w' = w := (must_any true w).mono fun _ _ h => ⟨by simpa using h.1, h.2⟩
theorem RAt.left1 {w : World} {b : Nat} {s : ByteArray} {a : Nat} {l : Int} (h : RAt w b s a l) (l' : Int) : RAt (w.setCell ⟨b, 2, none⟩ (.int .i64 l')) b s a l' := Blk.set h 2 (.int .i64 l')
theorem RAt.below {w w' : World} {b : Nat} {s : ByteArray} {a : Nat} {l : Int} (h : RAt w b s a l) (hb : Below w.heap.size w w') : RAt w' b s a l := Blk.below h hb
theorem RAt.lt {w : World} {b : Nat} {s : ByteArray} {a : Nat} {l : Int} (h : RAt w b s a l) : b < w.heap.size := Blk.lt h
theorem obj_fin {R : Ending → World → Prop} {a : Act} {w : World} {B : Nat} {v0 v1 v2 v3 v4 v5 : Value} {t : TypeId} (hk : Blk w B #[v0, v1, v2, v3, v4, v5] t) (h2 : a.tmps[4]?.getD undef = .pointer (some ⟨B, 0, none⟩)) (hd : a.defers = []) (h : R (.returned (.agg #[v0, v1, v2, v3, v4, v5])) w) :
    bodyPost Tryz.prog Tryz.f24 R Exit.ret a w := by
  obtain ⟨⟨f0, f1, f2, f3, f4, f5⟩, _⟩ := hk.six
  refine bodyPost_ret (v := .agg #[v0, v1, v2, v3, v4, v5]) ?_ hd h
  simp [results, Tryz.results24, go_sem, f0, f1, f2, f3, f4, f5, h2]
theorem oin_ref (w : World) (x : Nat) (hx : x ≤ 4096) : OIn w ⟨8, false, x, ⟨#[]⟩, []⟩ .nil none 0 none 0 := by
  refine ⟨⟨⟨by simp, by simp⟩, ⟨by simp only; omega, by simp only; omega⟩, by simp [ByteArray.size], by simp⟩, ⟨Or.inl rfl, ⟨by simp, by simp⟩, by omega⟩, ⟨by simp [flen], by simp [flen]⟩, by omega, Or.inl rfl⟩
set_option maxRecDepth 8000 in
set_option maxHeartbeats 4000000 in
theorem object_ref (b : Nat) (s : ByteArray) (a : Nat) (l deep : Int) (w : World) (h : RAt w b s a l) (hs : s.size ≤ 16777216) (ha : a ≤ s.size) (hl : 1 ≤ l) (hl2 : l ≤ 65536) (A : Nat) (hA : blanksV s.data.toList a = A)
    (p1 : Lib.hasPrefix (s.data.toList.drop A) [60, 60] = false) (p2 : Lib.hasPrefix (s.data.toList.drop A) [91] = false) (p3 : Lib.hasPrefix (s.data.toList.drop A) [60] = false) (p4 : Lib.hasPrefix (s.data.toList.drop A) [40] = false) (p5 : Lib.hasPrefix (s.data.toList.drop A) [47] = false)
    (x : Nat) (hx0 : 1 ≤ x) (hx : x ≤ 4096) (e2 : Nat)
    (HW : ∀ w, RAt w b s A (l - 1) → Calls Tryz.prog 48 #[.pointer (some ⟨b, 0, none⟩)] w fun e w' => e = .returned (ov ⟨8, false, x, ⟨#[]⟩, []⟩ none 0 none 0 0) ∧ But b w w' ∧ RAt w' b s e2 (l - 1)) :
    Calls Tryz.prog 24 #[.pointer (some ⟨b, 0, none⟩), .int .i64 deep] w fun e w' => e = .returned (ov ⟨8, false, x, ⟨#[]⟩, []⟩ none 0 none 0 0) ∧ But b w w' ∧ RAt w' b s e2 (l - 1) := by
  have hlt := h.lt
  have hAs : A ≤ s.size := by rw [← hA]; exact blanks_le s a ha
  obtain ⟨⟨c0, c1, c2⟩, z0, z1, z2⟩ := h.three
  have CP := hide (fun w' (h' : RAt w' b s a (l - 1)) => pass_any b s a (l - 1) w' h' hs ha)
  rw [hA] at CP
  have CT := hide (fun p w' (h' : RAt w' b s A (l - 1)) (hp : p.size ≤ 16) (ht : Lib.hasPrefix (s.data.toList.drop A) p.data.toList = false) => take_hit b s p A (l - 1) w' h' hs hAs hp false ht)
  have CW := hide HW
  have CM := hide must_t
  have hflat : flatV ⟨8, false, x, ⟨#[]⟩, []⟩ 0 = true := by
    unfold flatV
    simp [ByteArray.size]
    omega
  have CF := hide (fun w' => fits_any ⟨8, false, x, ⟨#[]⟩, []⟩ .nil none 0 none 0 w' (oin_ref w' x hx))
  rw [show flen (BT.nil : BT Pay) = 0 from rfl, hflat] at CF
  have P1 := hide p1
  have P2 := hide p2
  have P3 := hide p3
  have P4 := hide p4
  have P5 := hide p5
  have hb1 : Below (w.setCell ⟨b, 2, none⟩ (.int .i64 (l - 1))).heap.size (w.setCell ⟨b, 2, none⟩ (.int .i64 (l - 1))) ((w.setCell ⟨b, 2, none⟩ (.int .i64 (l - 1))).alloc (.cells zobj 25)) := (Below.refl _ _).alloc (Nat.le_refl _) _
  have HB1 := hide ((But.setCell b w 2 (.int .i64 (l - 1))).trans (But.of_below hb1))
  have HR1 := hide ((h.left1 (l - 1)).below hb1)
  have hsz : (w.setCell ⟨b, 2, none⟩ (.int .i64 (l - 1))).heap.size = w.heap.size := by simp [World.setCell]
  have HK1 : Hid (Blk ((w.setCell ⟨b, 2, none⟩ (.int .i64 (l - 1))).alloc (.cells zobj 25)) w.heap.size zobj 25) := hide (by
    have := Blk.new (w.setCell ⟨b, 2, none⟩ (.int .i64 (l - 1))) zobj 25
    rwa [hsz] at this)
  have hl3 : decide ((0 : Int) ≤ l - 1) = true := by simp; omega
  clear p1 p2 p3 p4 p5 HW hflat hb1 hsz h hA
  go_enter Tryz.func24, Tryz.ntmps24
  go_wp2_with fail
  have hszw : w.heap.size < ((w.setCell ⟨b, 2, none⟩ (.int .i64 (l - 1))).alloc (.cells zobj 25)).heap.size := by simp [World.setCell]
  generalize (w.setCell ⟨b, 2, none⟩ (.int .i64 (l - 1))).alloc (.cells zobj 25) = w1 at HB1 HR1 HK1 hszw ⊢
  clear c0 c1 c2 z0 z1 z2 hl3
  refine (CM.out _).mono ?_
  rintro e wm ⟨rfl, rfl⟩
  go_wp2_with fail
  refine (CP.out _ HR1.out).mono ?_
  rintro e w2 ⟨rfl, h1, h2⟩
  have HB2 := hide (HB1.out.trans h1)
  have HR2 := hide h2
  have HK2 := hide (HK1.out.but h1 (by omega))
  have hz2 : w.heap.size < w2.heap.size := Nat.lt_of_lt_of_le hszw h1.size
  clear h1 h2 HB1 HR1 HK1 hszw
  go_wp2_with fail
  have hb3 : Below w2.heap.size w2 (w2.alloc (.cells zobj 25)) := (Below.refl _ _).alloc (Nat.le_refl _) _
  have HB := hide (HB2.out.trans (But.of_below hb3))
  have HR := hide (HR2.out.below hb3)
  have HKa := hide (HK2.out.below hb3)
  have HKo := hide (Blk.new w2 zobj 25)
  obtain ⟨O, hO⟩ : ∃ O, w2.heap.size = O := ⟨_, rfl⟩
  rw [hO] at HKo hz2 ⊢
  generalize w2.alloc (.cells zobj 25) = w3 at HB HR HKa HKo ⊢
  have hbO : b ≠ O := by omega
  have hbR : b ≠ w.heap.size := by omega
  clear HB2 HR2 HK2 hb3 hO
  refine (CT.out ⟨#[60, 60]⟩ _ HR.out (by decide) P1.out).mono ?_
  rintro e w4 ⟨rfl, h1, h2⟩
  have HB := hide (HB.out.trans h1)
  have HR : Hid (RAt w4 b s A (l - 1)) := hide h2
  have HKa := hide (HKa.out.but h1 hbR.symm)
  have HKo := hide (HKo.out.but h1 hbO.symm)
  clear h1 h2
  go_wp2_with fail
  refine (CT.out ⟨#[91]⟩ _ HR.out (by decide) P2.out).mono ?_
  rintro e w5 ⟨rfl, h1, h2⟩
  have HB := hide (HB.out.trans h1)
  have HR : Hid (RAt w5 b s A (l - 1)) := hide h2
  have HKa := hide (HKa.out.but h1 hbR.symm)
  have HKo := hide (HKo.out.but h1 hbO.symm)
  clear h1 h2
  go_wp2_with fail
  refine (CT.out ⟨#[60]⟩ _ HR.out (by decide) P3.out).mono ?_
  rintro e w6 ⟨rfl, h1, h2⟩
  have HB := hide (HB.out.trans h1)
  have HR : Hid (RAt w6 b s A (l - 1)) := hide h2
  have HKa := hide (HKa.out.but h1 hbR.symm)
  have HKo := hide (HKo.out.but h1 hbO.symm)
  clear h1 h2
  go_wp2_with fail
  refine (CT.out ⟨#[40]⟩ _ HR.out (by decide) P4.out).mono ?_
  rintro e w7 ⟨rfl, h1, h2⟩
  have HB := hide (HB.out.trans h1)
  have HR : Hid (RAt w7 b s A (l - 1)) := hide h2
  have HKa := hide (HKa.out.but h1 hbR.symm)
  have HKo := hide (HKo.out.but h1 hbO.symm)
  clear h1 h2
  go_wp2_with fail
  refine (CT.out ⟨#[47]⟩ _ HR.out (by decide) P5.out).mono ?_
  rintro e w8 ⟨rfl, h1, h2⟩
  have HB := hide (HB.out.trans h1)
  have HR : Hid (RAt w8 b s A (l - 1)) := hide h2
  have HKa := hide (HKa.out.but h1 hbR.symm)
  have HKo := hide (HKo.out.but h1 hbO.symm)
  clear h1 h2
  go_wp2_with fail
  refine (CW.out _ HR.out).mono ?_
  rintro e wW ⟨rfl, h1, h2⟩
  have HB := hide (HB.out.trans h1)
  have HR := hide h2
  have HKa := hide (HKa.out.but h1 hbR.symm)
  have hko := HKo.out.but h1 hbO.symm
  have HKo := hide hko
  obtain ⟨⟨r0, r1, r2, r3, r4, r5⟩, ⟨y0, y1, y2, y3, y4, y5⟩⟩ := hko.six
  clear h1 h2 hko
  go_wp2_with fail
  clear r0 r1 r2 r3 r4 r5 y0 y1 y2 y3 y4 y5
  have HB : Hid (But b w ((((((wW.setCell ⟨O, 0, none⟩ (.int .i64 8)).setCell ⟨O, 1, none⟩ (.bool false)).setCell ⟨O, 2, none⟩ (.int .i64 x)).setCell ⟨O, 3, none⟩ (.string ⟨#[]⟩)).setCell ⟨O, 4, none⟩ (.slice none 0 0)).setCell ⟨O, 5, none⟩ (.slice none 0 0))) := hide (st6_but HB.out (Nat.le_of_lt hz2) (.int .i64 8) (.bool false) (.int .i64 x) (.string ⟨#[]⟩) (.slice none 0 0) (.slice none 0 0))
  have HR : Hid (RAt ((((((wW.setCell ⟨O, 0, none⟩ (.int .i64 8)).setCell ⟨O, 1, none⟩ (.bool false)).setCell ⟨O, 2, none⟩ (.int .i64 x)).setCell ⟨O, 3, none⟩ (.string ⟨#[]⟩)).setCell ⟨O, 4, none⟩ (.slice none 0 0)).setCell ⟨O, 5, none⟩ (.slice none 0 0)) b s e2 (l - 1)) := hide (st6_rat HR.out hbO (.int .i64 8) (.bool false) (.int .i64 x) (.string ⟨#[]⟩) (.slice none 0 0) (.slice none 0 0))
  have HKa : Hid (Blk ((((((wW.setCell ⟨O, 0, none⟩ (.int .i64 8)).setCell ⟨O, 1, none⟩ (.bool false)).setCell ⟨O, 2, none⟩ (.int .i64 x)).setCell ⟨O, 3, none⟩ (.string ⟨#[]⟩)).setCell ⟨O, 4, none⟩ (.slice none 0 0)).setCell ⟨O, 5, none⟩ (.slice none 0 0)) w.heap.size zobj 25) := hide ((st6_block (w := wW) (b := O) (k := w.heap.size) (Nat.ne_of_lt hz2) _ _ _ _ _ _).trans HKa.out)
  have HKo : Hid (Blk ((((((wW.setCell ⟨O, 0, none⟩ (.int .i64 8)).setCell ⟨O, 1, none⟩ (.bool false)).setCell ⟨O, 2, none⟩ (.int .i64 x)).setCell ⟨O, 3, none⟩ (.string ⟨#[]⟩)).setCell ⟨O, 4, none⟩ (.slice none 0 0)).setCell ⟨O, 5, none⟩ (.slice none 0 0)) O #[.int .i64 8, .bool false, .int .i64 x, .string ⟨#[]⟩, .slice none 0 0, .slice none 0 0] 25) := hide (st6_blk HKo.out (.int .i64 8) (.bool false) (.int .i64 x) (.string ⟨#[]⟩) (.slice none 0 0) (.slice none 0 0))
  generalize ((((((wW.setCell ⟨O, 0, none⟩ (.int .i64 8)).setCell ⟨O, 1, none⟩ (.bool false)).setCell ⟨O, 2, none⟩ (.int .i64 x)).setCell ⟨O, 3, none⟩ (.string ⟨#[]⟩)).setCell ⟨O, 4, none⟩ (.slice none 0 0)).setCell ⟨O, 5, none⟩ (.slice none 0 0)) = wX at HB HR HKa HKo ⊢
  refine (CF.out _).mono ?_
  rintro e wY ⟨rfl, hf⟩
  have HB := hide (HB.out.trans (But.of_below hf))
  have HR := hide (HR.out.below hf)
  have hka := HKa.out.below hf
  have hko := HKo.out.below hf
  have HKa := hide hka
  obtain ⟨⟨r0, r1, r2, r3, r4, r5⟩, ⟨y0, y1, y2, y3, y4, y5⟩⟩ := hka.six
  obtain ⟨⟨q0, q1, q2, q3, q4, q5⟩, _⟩ := hko.six
  clear hka hko hf
  go_wp2_with fail
  refine (CM.out _).mono ?_
  rintro e wm ⟨rfl, rfl⟩
  go_wp2_with fail
  exact obj_fin (st6_blk HKa.out (.int .i64 8) (.bool false) (.int .i64 x) (.string ⟨#[]⟩) (.slice none 0 0) (.slice none 0 0)) rfl rfl ⟨rfl, st6_but HB.out (Nat.le_refl _) _ _ _ _ _ _, st6_rat HR.out hbR _ _ _ _ _ _⟩
end Go.Proofs.YtalmcdbdibpgkaaGreatDoor
/-
  What the landed reader's array answers at the text of an array of one item, a reference.
-/
namespace Go.Proofs.YtalmcdbdibpgkaaGreatDoor
open Go.RowKit Go.Deep

theorem arr_fin {R : Ending → World → Prop} {a : Act} {w : World} {B : Nat} {v0 v1 v2 v3 v4 v5 : Value} {t : TypeId} (hk : Blk w B #[v0, v1, v2, v3, v4, v5] t) (h2 : a.tmps[4]?.getD undef = .pointer (some ⟨B, 0, none⟩)) (hd : a.defers = []) (h : R (.returned (.agg #[v0, v1, v2, v3, v4, v5])) w) :
    bodyPost Tryz.prog Tryz.f44 R Exit.ret a w := by
  obtain ⟨⟨f0, f1, f2, f3, f4, f5⟩, _⟩ := hk.six
  refine bodyPost_ret (v := .agg #[v0, v1, v2, v3, v4, v5]) ?_ hd h
  simp [results, Tryz.results44, go_sem, f0, f1, f2, f3, f4, f5, h2]
abbrev refP (x : Nat) : Pay := ⟨8, false, x, ⟨#[]⟩, []⟩
abbrev arrP : Pay := ⟨6, false, 0, ⟨#[]⟩, []⟩
abbrev arrT (x : Nat) : BT Pay := .node 0 0 (refP x) .nil .nil
set_option maxRecDepth 8000 in
set_option maxHeartbeats 4000000 in
theorem array_one (b : Nat) (s : ByteArray) (a : Nat) (l : Int) (deep : Int) (w : World) (h : RAt w b s a l) (hs : s.size ≤ 16777216) (ha : a ≤ s.size) (hd0 : 1 ≤ deep) (hd : deep ≤ 32) (A1 : Nat) (hA1 : blanksV s.data.toList a = A1)
    (p1 : Lib.hasPrefix (s.data.toList.drop A1) [93] = false) (x : Nat) (hx : x ≤ 4096) (e2 : Nat) (he2 : e2 ≤ s.size) (A2 : Nat) (hA2 : blanksV s.data.toList e2 = A2) (p2 : Lib.hasPrefix (s.data.toList.drop A2) [93] = true)
    (HO : ∀ w, RAt w b s A1 l → Calls Tryz.prog 24 #[.pointer (some ⟨b, 0, none⟩), .int .i64 (deep + 1)] w fun e w' => e = .returned (ov (refP x) none 0 none 0 0) ∧ But b w w' ∧ RAt w' b s e2 (l - 1)) :
    Calls Tryz.prog 44 #[.pointer (some ⟨b, 0, none⟩), .int .i64 deep] w fun e w' => (∃ ia ic, e = .returned (ov arrP none 0 ia 1 ic) ∧ OIn (fresh w.heap.size w') arrP (arrT x) none 0 ia ic) ∧ But b w w' ∧ RAt w' b s (A2 + 1) (l - 1) := by
  have hlt := h.lt
  have hA1s : A1 ≤ s.size := by rw [← hA1]; exact blanks_le s a ha
  have hA2s : A2 ≤ s.size := by rw [← hA2]; exact blanks_le s e2 he2
  have CP1 := hide (fun w' (h' : RAt w' b s a l) => pass_any b s a l w' h' hs ha)
  rw [hA1] at CP1
  have CP2 := hide (fun w' (h' : RAt w' b s e2 (l - 1)) => pass_any b s e2 (l - 1) w' h' hs he2)
  rw [hA2] at CP2
  have CT1 := hide (fun w' (h' : RAt w' b s A1 l) => take_hit b s ⟨#[93]⟩ A1 l w' h' hs hA1s (by decide) false p1)
  have CT2 := hide (fun w' (h' : RAt w' b s A2 (l - 1)) => take_hit b s ⟨#[93]⟩ A2 (l - 1) w' h' hs hA2s (by decide) true p2)
  have CO := hide HO
  have CM := hide must_t
  have hdd : decide (deep ≤ 32) = true := by simpa using hd
  have hb1 : Below w.heap.size w ((w.alloc (.cells zobj 25)).alloc (.cells #[.int .i64 6, .bool false, .int .i64 0, .string ⟨#[]⟩, .slice none 0 0, .slice none 0 0] 25)) := ((Below.refl _ _).alloc (Nat.le_refl _) _).alloc (by simp) _
  have HB1 := hide (But.of_below (b := b) hb1)
  have HR1 := hide (h.below hb1)
  have HKa : Hid (Blk ((w.alloc (.cells zobj 25)).alloc (.cells #[.int .i64 6, .bool false, .int .i64 0, .string ⟨#[]⟩, .slice none 0 0, .slice none 0 0] 25)) w.heap.size zobj 25) := hide ((Blk.new w _ _).below ((Below.refl _ _).alloc (Nat.le_refl _) _))
  have HKo : Hid (Blk ((w.alloc (.cells zobj 25)).alloc (.cells #[.int .i64 6, .bool false, .int .i64 0, .string ⟨#[]⟩, .slice none 0 0, .slice none 0 0] 25)) (w.heap.size + 1) #[.int .i64 6, .bool false, .int .i64 0, .string ⟨#[]⟩, .slice none 0 0, .slice none 0 0] 25) := hide (by
    have := Blk.new (w.alloc (.cells zobj 25)) #[.int .i64 6, .bool false, .int .i64 0, .string ⟨#[]⟩, .slice none 0 0, .slice none 0 0] 25
    rwa [show (w.alloc (.cells zobj 25)).heap.size = w.heap.size + 1 by simp] at this)
  clear h p1 p2 HO hb1 hA1 hA2
  go_enter Tryz.func44, Tryz.ntmps44
  go_wp2_with fail
  refine (CM.out _).mono ?_
  rintro e wm ⟨rfl, hwm⟩
  subst hwm
  go_wp2_with fail
  refine (CP1.out _ HR1.out).mono ?_
  rintro e w2 ⟨rfl, h1, h2⟩
  have HB2 := hide (HB1.out.trans h1)
  have HR2 := hide h2
  have HKa := hide (HKa.out.but h1 (by omega))
  have HKo := hide (HKo.out.but h1 (by omega))
  have hz2 : w.heap.size + 1 + 1 ≤ w2.heap.size := by have := h1.size; simp at this; omega
  clear h1 h2 HB1 HR1
  go_wp2_with fail
  refine wp_loop_rounds 2 ?_
  rw [rounds_succ]
  go_wp2_with fail
  refine (CT1.out _ HR2.out).mono ?_
  rintro e w3 ⟨rfl, h1, h2⟩
  have HB3 := hide (HB2.out.trans h1)
  have HR3 : Hid (RAt w3 b s A1 l) := hide h2
  have HKa := hide (HKa.out.but h1 (by omega))
  have HKo := hide (HKo.out.but h1 (by omega))
  have hz3 : w.heap.size + 1 + 1 ≤ w3.heap.size := Nat.le_trans hz2 h1.size
  clear h1 h2 HB2 HR2 hz2
  go_wp2_with fail
  have e5 : w3.cell? ⟨w.heap.size + 1, 5, none⟩ = some (.slice none 0 0) := HKo.out.cell 5
  have AP : Hid (∀ y, But b w3 y → ∃ g cap w2, (Builtin.append_ #[23, 23] 23 #[.slice none 0 0, .slice (some ⟨y.heap.size, 0, none⟩) 1 1]).run Tryz.prog (y.alloc (.cells (Ent.cells ⟨0, 0, refP x, .nil, none, 0, none, 0⟩).toArray 25)) = .ok (.slice (some ⟨g, 0, none⟩) 1 cap) w2 ∧
      ORow w2 (w.heap.size + 1 + 1) (.slice (some ⟨g, 0, none⟩) 1 cap) [⟨0, 0, refP x, .nil, none, 0, none, 0⟩] ∧ Below (w.heap.size + 1 + 1) y w2) := hide (fun y hy => by
    obtain ⟨g, cap, w2, hr, ho, hb, _⟩ := app_obj (W := w3) (W1 := y) (B := w.heap.size + 1 + 1) (v := .slice none 0 0) (l := []) ⟨0, 0, refP x, .nil, none, 0, none, 0⟩ (ORow.nil _ _) hy.size (fun k h1 h2 => hy.block k h2 (by omega)) hz3 (oin_ref _ x hx) (by simp) _ rfl
    exact ⟨g, cap, w2, hr, ho, hb⟩)
  rename_i k0
  have HKK := hide k0
  clear k0
  have hszl : w.heap.size + 1 < w3.heap.size := by omega
  have hwr : IntKind.i64.wrap (deep + 1) = deep + 1 := by rw [IntKind.wrap_i64]; omega
  go_region_law ((first | (go_simp; go_at_call 24; refine (CO.out _ ?_).mono ?_; exact RAt.drewN HR3.out 1; rintro e wy ⟨rfl, h1, h2⟩; have hyb : But b w3 wy := ⟨h1.os, h1.tape, h1.output, h1.size, h1.block⟩; obtain ⟨g, cap, w4, hr, ho, hb⟩ := AP.out wy hyb; have HR := hide hr; have HY := hide hyb; have HRy := hide h2; have HO4 := hide ho; have HB4 := hide hb; have q5 : wy.cell? ⟨w.heap.size + 1, 5, none⟩ = some (.slice none 0 0) := (HKo.out.but hyb (by omega)).cell 5; have hszy : w.heap.size + 1 < wy.heap.size := Nat.lt_of_lt_of_le hszl hyb.size; have HQ5 := hide (((HKo.out.but hyb (by omega)).kept hb (by omega)).cell 5); have HZ5 := hide (((HKo.out.but hyb (by omega)).kept hb (by omega)).frozen 5); clear h1 h2 hyb hr ho hb) | (refine step_append_run _ (by rfl) _ _ _ _ rfl _ _ (by rfl) (by rfl) _ _ HR.out ?_; clear q5; have q5 := HQ5.out; have z5 := HZ5.out)))
  all_goals
    have hko4 := ((HKo.out.but HY.out (by omega)).kept HB4.out (by omega)).set 5 (.slice (some ⟨g, 0, none⟩) 1 cap)
    have hka4 := ((HKa.out.but HY.out (by omega)).kept HB4.out (by omega)).other (b' := w.heap.size + 1) (by omega) 5 (.slice (some ⟨g, 0, none⟩) 1 cap)
    have hr4 := Blk.other (Blk.kept HRy.out HB4.out (by omega)) (b' := w.heap.size + 1) (by omega) 5 (.slice (some ⟨g, 0, none⟩) 1 cap)
    have hb4 : But b w (w4.setCell ⟨w.heap.size + 1, 5, none⟩ (.slice (some ⟨g, 0, none⟩) 1 cap)) := ((HB3.out.trans HY.out).more HB4.out (by omega)).more ((Below.refl w.heap.size w4).setCell (p := ⟨w.heap.size + 1, 5, none⟩) (by simp) (.slice (some ⟨g, 0, none⟩) 1 cap)) (Nat.le_refl _)
    have ho4 := HO4.out.kept (w' := w4.setCell ⟨w.heap.size + 1, 5, none⟩ (.slice (some ⟨g, 0, none⟩) 1 cap)) (by simp [World.setCell]) fun k h1 h2 => Below.heap_setCell _ _ _ _ (by simp; omega)
    have hz4 : w.heap.size + 1 + 1 ≤ (w4.setCell ⟨w.heap.size + 1, 5, none⟩ (.slice (some ⟨g, 0, none⟩) 1 cap)).heap.size := by have h1 := HY.out.size; have h2 := HB4.out.size; simp [World.setCell]; omega
    have HKo4 := hide hko4
    have HKa4 := hide hka4
    have HR4 := hide (show RAt (w4.setCell ⟨w.heap.size + 1, 5, none⟩ (.slice (some ⟨g, 0, none⟩) 1 cap)) b s e2 (l - 1) from hr4)
    have HB5 := hide hb4
    have HO5 := hide ho4
    clear hko4 hka4 hr4 hb4 ho4 q5 z5
    refine HKK.out _ _ ?_
    generalize w4.setCell ⟨w.heap.size + 1, 5, none⟩ (.slice (some ⟨g, 0, none⟩) 1 cap) = w5 at HKo4 HKa4 HR4 HB5 HO5 hz4 ⊢
    go_wp2_with fail
    refine (CP2.out _ HR4.out).mono ?_
    rintro e w6 ⟨rfl, h1, h2⟩
    have HB6 := hide (HB5.out.trans h1)
    have HR6 := hide h2
    have HKo6 := hide (HKo4.out.but h1 (by omega))
    have HKa6 := hide (HKa4.out.but h1 (by omega))
    have HO6 := hide (HO5.out.kept h1.size fun k h3 h4 => h1.block k h4 (by omega))
    have hz6 : w.heap.size + 1 + 1 ≤ w6.heap.size := Nat.le_trans hz4 h1.size
    clear h1 h2
    go_wp2_with fail
    rw [rounds_succ]
    go_wp2_with fail
    refine (CT2.out _ HR6.out).mono ?_
    rintro e w7 ⟨rfl, h1, h2⟩
    have HB7 := hide (HB6.out.trans h1)
    have HR7 : Hid (RAt w7 b s (A2 + 1) (l - 1)) := hide h2
    have hko7 := HKo6.out.but h1 (by omega)
    have hka7 := HKa6.out.but h1 (by omega)
    have HO7 := hide (HO6.out.kept h1.size fun k h3 h4 => h1.block k h4 (by omega))
    have HKa7 := hide hka7
    obtain ⟨⟨r0, r1, r2, r3, r4, r5⟩, ⟨y0, y1, y2, y3, y4, y5⟩⟩ := hka7.six
    obtain ⟨⟨q0, q1, q2, q3, q4, q5⟩, _⟩ := hko7.six
    clear h1 h2 hko7 hka7
    go_wp2_with fail
    refine arr_fin (st6_blk HKa7.out (.int .i64 6) (.bool false) (.int .i64 0) (.string ⟨#[]⟩) (.slice none 0 0) (.slice (some ⟨g, 0, none⟩) 1 cap)) rfl rfl ⟨⟨some ⟨g, 0, none⟩, cap, rfl, ?_⟩, st6_but HB7.out (Nat.le_refl _) _ _ _ _ _ _, st6_rat HR7.out (by omega) _ _ _ _ _ _⟩
    obtain ⟨ia, ic, hv, i1, i2, i3⟩ := HO7.out.items
    simp only [Value.slice.injEq] at hv
    obtain ⟨rfl, _, rfl⟩ := hv
    have hsub : Sub (fresh (w.heap.size + 1 + 1) w7) (fresh w.heap.size (st6 w7 w.heap.size (.int .i64 6) (.bool false) (.int .i64 0) (.string ⟨#[]⟩) (.slice none 0 0) (.slice (some ⟨g, 0, none⟩) 1 cap))) := only_sub (Nat.le_of_eq (st6_size _ _ _ _ _ _ _ _).symm) fun k h1 _ => ⟨by omega, st6_block (w := w7) (b := w.heap.size) (k := k) (by omega) _ _ _ _ _ _⟩
    exact ⟨⟨⟨by simp, by simp⟩, ⟨by simp, by simp⟩, by simp [ByteArray.size], by simp⟩, ⟨Or.inl rfl, ⟨by simp, by simp⟩, by omega⟩, ⟨i1, by simp [flen]⟩, i2, by
      rcases i3 with h | ⟨b', off', e, hl, hR⟩
      · exact Or.inl h
      · exact Or.inr ⟨b', off', e, Nat.lt_of_lt_of_le hl hsub.size, hR.sub hsub⟩⟩
end Go.Proofs.YtalmcdbdibpgkaaGreatDoor
/-
  What the landed reader's object answers at the text of an array of one item, a reference.
-/
namespace Go.Proofs.YtalmcdbdibpgkaaGreatDoor
open Go.RowKit Go.Deep

set_option maxRecDepth 8000 in
set_option maxHeartbeats 4000000 in
theorem object_arr (b : Nat) (s : ByteArray) (a : Nat) (l deep : Int) (w : World) (h : RAt w b s a l) (hs : s.size ≤ 16777216) (ha : a ≤ s.size) (hl : 1 ≤ l) (hl2 : l ≤ 65536) (A : Nat) (hA : blanksV s.data.toList a = A)
    (p1 : Lib.hasPrefix (s.data.toList.drop A) [60, 60] = false) (p2 : Lib.hasPrefix (s.data.toList.drop A) [91] = true) (x : Nat) (e2 : Nat)
    (HW : ∀ w, RAt w b s (A + 1) (l - 1) → Calls Tryz.prog 44 #[.pointer (some ⟨b, 0, none⟩), .int .i64 deep] w fun e w' => (∃ ia ic, e = .returned (ov arrP none 0 ia 1 ic) ∧ OIn (fresh w.heap.size w') arrP (arrT x) none 0 ia ic) ∧ But b w w' ∧ RAt w' b s e2 (l - 1 - 1)) :
    Calls Tryz.prog 24 #[.pointer (some ⟨b, 0, none⟩), .int .i64 deep] w fun e w' => (∃ ia ic, e = .returned (ov arrP none 0 ia 1 ic) ∧ OIn (fresh w.heap.size w') arrP (arrT x) none 0 ia ic) ∧ But b w w' ∧ RAt w' b s e2 (l - 1 - 1) := by
  have hlt := h.lt
  have hAs : A ≤ s.size := by rw [← hA]; exact blanks_le s a ha
  obtain ⟨⟨c0, c1, c2⟩, z0, z1, z2⟩ := h.three
  have CP := hide (fun w' (h' : RAt w' b s a (l - 1)) => pass_any b s a (l - 1) w' h' hs ha)
  rw [hA] at CP
  have CT2 := hide (fun w' (h' : RAt w' b s A (l - 1)) => take_hit b s ⟨#[91]⟩ A (l - 1) w' h' hs hAs (by decide) true p2)
  have CT := hide (fun p w' (h' : RAt w' b s A (l - 1)) (hp : p.size ≤ 16) (ht : Lib.hasPrefix (s.data.toList.drop A) p.data.toList = false) => take_hit b s p A (l - 1) w' h' hs hAs hp false ht)
  have CW := hide HW
  have CM := hide must_t
  have hflat : flatV arrP 1 = true := by unfold flatV; simp [ByteArray.size]
  have CF := hide (fun w' ia ic (h' : OIn w' arrP (arrT x) none 0 ia ic) => fits_any arrP (arrT x) none 0 ia ic w' h')
  rw [show flen (arrT x) = 1 from rfl, hflat] at CF
  have P1 := hide p1
  have hb1 : Below (w.setCell ⟨b, 2, none⟩ (.int .i64 (l - 1))).heap.size (w.setCell ⟨b, 2, none⟩ (.int .i64 (l - 1))) ((w.setCell ⟨b, 2, none⟩ (.int .i64 (l - 1))).alloc (.cells zobj 25)) := (Below.refl _ _).alloc (Nat.le_refl _) _
  have HB1 := hide ((But.setCell b w 2 (.int .i64 (l - 1))).trans (But.of_below hb1))
  have HR1 := hide ((h.left1 (l - 1)).below hb1)
  have hsz : (w.setCell ⟨b, 2, none⟩ (.int .i64 (l - 1))).heap.size = w.heap.size := by simp [World.setCell]
  have HK1 : Hid (Blk ((w.setCell ⟨b, 2, none⟩ (.int .i64 (l - 1))).alloc (.cells zobj 25)) w.heap.size zobj 25) := hide (by
    have := Blk.new (w.setCell ⟨b, 2, none⟩ (.int .i64 (l - 1))) zobj 25
    rwa [hsz] at this)
  have hl3 : decide ((0 : Int) ≤ l - 1) = true := by simp; omega
  clear p1 p2 HW hflat hb1 hsz h hA
  go_enter Tryz.func24, Tryz.ntmps24
  go_wp2_with fail
  have hszw : w.heap.size < ((w.setCell ⟨b, 2, none⟩ (.int .i64 (l - 1))).alloc (.cells zobj 25)).heap.size := by simp [World.setCell]
  generalize (w.setCell ⟨b, 2, none⟩ (.int .i64 (l - 1))).alloc (.cells zobj 25) = w1 at HB1 HR1 HK1 hszw ⊢
  clear c0 c1 c2 z0 z1 z2 hl3
  refine (CM.out _).mono ?_
  rintro e wm ⟨rfl, rfl⟩
  go_wp2_with fail
  refine (CP.out _ HR1.out).mono ?_
  rintro e w2 ⟨rfl, h1, h2⟩
  have HB2 := hide (HB1.out.trans h1)
  have HR2 := hide h2
  have HK2 := hide (HK1.out.but h1 (by omega))
  have hz2 : w.heap.size < w2.heap.size := Nat.lt_of_lt_of_le hszw h1.size
  clear h1 h2 HB1 HR1 HK1 hszw
  go_wp2_with fail
  have hb3 : Below w2.heap.size w2 (w2.alloc (.cells zobj 25)) := (Below.refl _ _).alloc (Nat.le_refl _) _
  have HB := hide (HB2.out.trans (But.of_below hb3))
  have HR := hide (HR2.out.below hb3)
  have HKa := hide (HK2.out.below hb3)
  have HKo := hide (Blk.new w2 zobj 25)
  obtain ⟨O, hO⟩ : ∃ O, w2.heap.size = O := ⟨_, rfl⟩
  rw [hO] at HKo hz2 ⊢
  generalize w2.alloc (.cells zobj 25) = w3 at HB HR HKa HKo ⊢
  have hbO : b ≠ O := by omega
  have hbR : b ≠ w.heap.size := by omega
  clear HB2 HR2 HK2 hb3 hO
  refine (CT.out ⟨#[60, 60]⟩ _ HR.out (by decide) P1.out).mono ?_
  rintro e w4 ⟨rfl, h1, h2⟩
  have HB := hide (HB.out.trans h1)
  have HR : Hid (RAt w4 b s A (l - 1)) := hide h2
  have HKa := hide (HKa.out.but h1 hbR.symm)
  have HKo := hide (HKo.out.but h1 hbO.symm)
  clear h1 h2
  go_wp2_with fail
  refine (CT2.out _ HR.out).mono ?_
  rintro e w5 ⟨rfl, h1, h2⟩
  have HB := hide (HB.out.trans h1)
  have HR : Hid (RAt w5 b s (A + 1) (l - 1)) := hide h2
  have HKa := hide (HKa.out.but h1 hbR.symm)
  have HKo := hide (HKo.out.but h1 hbO.symm)
  clear h1 h2
  go_wp2_with fail
  refine (CW.out _ HR.out).mono ?_
  rintro e wW ⟨⟨ia, ic, rfl, hin⟩, h1, h2⟩
  have hO5 : O < w5.heap.size := HKo.out.lt
  have HIN := hide hin
  have HB := hide (HB.out.trans h1)
  have HR := hide h2
  have HKa := hide (HKa.out.but h1 hbR.symm)
  have hko := HKo.out.but h1 hbO.symm
  have HKo := hide hko
  obtain ⟨⟨r0, r1, r2, r3, r4, r5⟩, ⟨y0, y1, y2, y3, y4, y5⟩⟩ := hko.six
  clear h1 h2 hko hin
  go_wp2_with fail
  clear r0 r1 r2 r3 r4 r5 y0 y1 y2 y3 y4 y5
  have HB : Hid (But b w ((((((wW.setCell ⟨O, 0, none⟩ (.int .i64 6)).setCell ⟨O, 1, none⟩ (.bool false)).setCell ⟨O, 2, none⟩ (.int .i64 0)).setCell ⟨O, 3, none⟩ (.string ⟨#[]⟩)).setCell ⟨O, 4, none⟩ (.slice none 0 0)).setCell ⟨O, 5, none⟩ (.slice ia 1 ic))) := hide (st6_but HB.out (Nat.le_of_lt hz2) (.int .i64 6) (.bool false) (.int .i64 0) (.string ⟨#[]⟩) (.slice none 0 0) (.slice ia 1 ic))
  have HR : Hid (RAt ((((((wW.setCell ⟨O, 0, none⟩ (.int .i64 6)).setCell ⟨O, 1, none⟩ (.bool false)).setCell ⟨O, 2, none⟩ (.int .i64 0)).setCell ⟨O, 3, none⟩ (.string ⟨#[]⟩)).setCell ⟨O, 4, none⟩ (.slice none 0 0)).setCell ⟨O, 5, none⟩ (.slice ia 1 ic)) b s e2 (l - 1 - 1)) := hide (st6_rat HR.out hbO (.int .i64 6) (.bool false) (.int .i64 0) (.string ⟨#[]⟩) (.slice none 0 0) (.slice ia 1 ic))
  have HKa : Hid (Blk ((((((wW.setCell ⟨O, 0, none⟩ (.int .i64 6)).setCell ⟨O, 1, none⟩ (.bool false)).setCell ⟨O, 2, none⟩ (.int .i64 0)).setCell ⟨O, 3, none⟩ (.string ⟨#[]⟩)).setCell ⟨O, 4, none⟩ (.slice none 0 0)).setCell ⟨O, 5, none⟩ (.slice ia 1 ic)) w.heap.size zobj 25) := hide ((st6_block (w := wW) (b := O) (k := w.heap.size) (Nat.ne_of_lt hz2) _ _ _ _ _ _).trans HKa.out)
  have HKo : Hid (Blk ((((((wW.setCell ⟨O, 0, none⟩ (.int .i64 6)).setCell ⟨O, 1, none⟩ (.bool false)).setCell ⟨O, 2, none⟩ (.int .i64 0)).setCell ⟨O, 3, none⟩ (.string ⟨#[]⟩)).setCell ⟨O, 4, none⟩ (.slice none 0 0)).setCell ⟨O, 5, none⟩ (.slice ia 1 ic)) O #[.int .i64 6, .bool false, .int .i64 0, .string ⟨#[]⟩, .slice none 0 0, .slice ia 1 ic] 25) := hide (st6_blk HKo.out (.int .i64 6) (.bool false) (.int .i64 0) (.string ⟨#[]⟩) (.slice none 0 0) (.slice ia 1 ic))
  have HIN : Hid (OIn (only (fun k => O < k) ((((((wW.setCell ⟨O, 0, none⟩ (.int .i64 6)).setCell ⟨O, 1, none⟩ (.bool false)).setCell ⟨O, 2, none⟩ (.int .i64 0)).setCell ⟨O, 3, none⟩ (.string ⟨#[]⟩)).setCell ⟨O, 4, none⟩ (.slice none 0 0)).setCell ⟨O, 5, none⟩ (.slice ia 1 ic))) arrP (arrT x) none 0 ia ic) := hide (HIN.out.sub (only_sub (Nat.le_of_eq (st6_size _ _ _ _ _ _ _ _).symm) fun k h1 _ => ⟨Nat.lt_of_lt_of_le hO5 h1, st6_block (w := wW) (b := O) (k := k) (Nat.ne_of_gt (Nat.lt_of_lt_of_le hO5 h1)) _ _ _ _ _ _⟩))
  generalize ((((((wW.setCell ⟨O, 0, none⟩ (.int .i64 6)).setCell ⟨O, 1, none⟩ (.bool false)).setCell ⟨O, 2, none⟩ (.int .i64 0)).setCell ⟨O, 3, none⟩ (.string ⟨#[]⟩)).setCell ⟨O, 4, none⟩ (.slice none 0 0)).setCell ⟨O, 5, none⟩ (.slice ia 1 ic)) = wX at HB HR HKa HKo HIN ⊢
  refine (CF.out _ _ _ (HIN.out.sub (only_sub_all _ _))).mono ?_
  rintro e wY ⟨rfl, hf⟩
  have HIN := hide (HIN.out.sub (only_sub (S' := fun k => O < k) hf.size fun k h1 h2 => ⟨h1, hf.block k h2⟩))
  have HB := hide (HB.out.trans (But.of_below hf))
  have HR := hide (HR.out.below hf)
  have hka := HKa.out.below hf
  have hko := HKo.out.below hf
  have HKa := hide hka
  obtain ⟨⟨r0, r1, r2, r3, r4, r5⟩, ⟨y0, y1, y2, y3, y4, y5⟩⟩ := hka.six
  obtain ⟨⟨q0, q1, q2, q3, q4, q5⟩, _⟩ := hko.six
  clear hka hko hf
  go_wp2_with fail
  refine (CM.out _).mono ?_
  rintro e wm ⟨rfl, rfl⟩
  go_wp2_with fail
  exact obj_fin (st6_blk HKa.out (.int .i64 6) (.bool false) (.int .i64 0) (.string ⟨#[]⟩) (.slice none 0 0) (.slice ia 1 ic)) rfl rfl ⟨⟨ia, ic, rfl, HIN.out.sub (only_sub (Nat.le_of_eq (st6_size _ _ _ _ _ _ _ _).symm) fun k h1 _ => ⟨by omega, st6_block (w := wm) (b := w.heap.size) (k := k) (by omega) _ _ _ _ _ _⟩)⟩, st6_but HB.out (Nat.le_refl _) _ _ _ _ _ _, st6_rat HR.out hbR _ _ _ _ _ _⟩
end Go.Proofs.YtalmcdbdibpgkaaGreatDoor
/-
  What the landed Parse answers where its reader answers an array of one reference.
-/
namespace Go.Proofs.YtalmcdbdibpgkaaGreatDoor
open Go.RowKit Go.Deep

theorem catch_idle (p q r : Addr) (w : World) :
    CallsD Tryz.prog 23 #[.pointer (some p), .pointer (some q), .pointer (some r)] .returning w fun e u' w' => e = .returned (.tuple #[]) ∧ u' = .returning ∧ w' = w := by
  refine callsD_of_wpS Tryz.func23 rfl fun c₀ cs hu => ?_
  apply wpS_seq
  apply wpS_region
  simp [wpOpsS, go_sem, recoverD, hu, Tryz.ntmps23, Exit.thenS]
  refine wpS_cond (t := false) (by simp [Act.eval, Array.replicate]) ?_
  simp only [Bool.false_eq_true, if_false]
  refine wpS_of_wp (wp_skip ?_)
  cases c₀
  simp_all [bodyPostS, results, Tryz.results23]
set_option maxRecDepth 8000 in
set_option maxHeartbeats 4000000 in
theorem parse_arr (s : ByteArray) (a : Nat) (w : World) (hs : s.size ≤ 16777216) (ha : a ≤ s.size) (x e2 : Nat)
    (HO : ∀ b w, RAt w b s a 65536 → Calls Tryz.prog 24 #[.pointer (some ⟨b, 0, none⟩), .int .i64 1] w fun e w' => (∃ ia ic, e = .returned (ov arrP none 0 ia 1 ic) ∧ OIn (fresh w.heap.size w') arrP (arrT x) none 0 ia ic) ∧ But b w w' ∧ RAt w' b s e2 (65536 - 1 - 1)) :
    Calls Tryz.prog 14 #[.string s, .int .i64 a] w fun e w' => (∃ ia ic, e = .returned (.tuple #[ov arrP none 0 ia 1 ic, .int .i64 e2, .int .i64 0]) ∧ OIn (fresh w.heap.size w') arrP (arrT x) none 0 ia ic) ∧ Below w.heap.size w w' := by
  have hmf : ∀ (fn : Fn) (first cap : Array Value) (w : World), (Instr.makeFunc fn first cap).run Tryz.prog w = .ok (.func fn first cap) w := fun _ _ _ _ => rfl
  have CO := hide HO
  have hs' : decide ((16777216 : Int) < (s.size : Int)) = false := by simp; omega
  have ha' : decide ((a : Int) < 0) = false := by simp
  have ha2 : decide ((s.size : Int) < (a : Int)) = false := by simp; omega
  clear HO
  go_enter_defers Tryz.func14, Tryz.ntmps14
  go_wp2_with fail
  have hb0 : Below w.heap.size w ((((w.alloc (.cells zobj 25)).alloc (.cells #[.int .i64 0] 3)).alloc (.cells #[.int .i64 0] 29)).alloc (.cells #[.string s, .int .i64 a, .int .i64 65536] 50)) := ((((Below.refl w.heap.size w).alloc (Nat.le_refl _) _).alloc (by simp) _).alloc (by simp; omega) _).alloc (by simp; omega) _
  have hal : ∀ (u : World) (o : Obj), Below u.heap.size u (u.alloc o) := fun u o => (Below.refl _ _).alloc (Nat.le_refl _) _
  have hsz1 : (w.alloc (.cells zobj 25)).heap.size = w.heap.size + 1 := by simp
  have hsz2 : ((w.alloc (.cells zobj 25)).alloc (.cells #[.int .i64 0] 3)).heap.size = w.heap.size + 1 + 1 := by simp
  have hsz3 : (((w.alloc (.cells zobj 25)).alloc (.cells #[.int .i64 0] 3)).alloc (.cells #[.int .i64 0] 29)).heap.size = w.heap.size + 1 + 1 + 1 := by simp
  have k0 : Blk ((((w.alloc (.cells zobj 25)).alloc (.cells #[.int .i64 0] 3)).alloc (.cells #[.int .i64 0] 29)).alloc (.cells #[.string s, .int .i64 a, .int .i64 65536] 50)) w.heap.size zobj 25 := (((Blk.new w _ _).below (hal _ _)).below (hal _ _)).below (hal _ _)
  have k1 : Blk ((((w.alloc (.cells zobj 25)).alloc (.cells #[.int .i64 0] 3)).alloc (.cells #[.int .i64 0] 29)).alloc (.cells #[.string s, .int .i64 a, .int .i64 65536] 50)) (w.heap.size + 1) #[.int .i64 0] 3 := by
    have := Blk.new (w.alloc (.cells zobj 25)) #[.int .i64 0] 3
    rw [hsz1] at this
    exact (this.below (hal _ _)).below (hal _ _)
  have k2 : Blk ((((w.alloc (.cells zobj 25)).alloc (.cells #[.int .i64 0] 3)).alloc (.cells #[.int .i64 0] 29)).alloc (.cells #[.string s, .int .i64 a, .int .i64 65536] 50)) (w.heap.size + 1 + 1) #[.int .i64 0] 29 := by
    have := Blk.new ((w.alloc (.cells zobj 25)).alloc (.cells #[.int .i64 0] 3)) #[.int .i64 0] 29
    rw [hsz2] at this
    exact this.below (hal _ _)
  have k3 : RAt ((((w.alloc (.cells zobj 25)).alloc (.cells #[.int .i64 0] 3)).alloc (.cells #[.int .i64 0] 29)).alloc (.cells #[.string s, .int .i64 a, .int .i64 65536] 50)) (w.heap.size + 1 + 1 + 1) s a 65536 := by
    have := Blk.new (((w.alloc (.cells zobj 25)).alloc (.cells #[.int .i64 0] 3)).alloc (.cells #[.int .i64 0] 29)) #[.string s, .int .i64 a, .int .i64 65536] 50
    rw [hsz3] at this
    exact this
  have hz0 : ((((w.alloc (.cells zobj 25)).alloc (.cells #[.int .i64 0] 3)).alloc (.cells #[.int .i64 0] 29)).alloc (.cells #[.string s, .int .i64 a, .int .i64 65536] 50)).heap.size = w.heap.size + 1 + 1 + 1 + 1 := by simp
  have HB0 := hide hb0
  have HK0 := hide k0
  have HK1 := hide k1
  have HK2 := hide k2
  have HK3 := hide k3
  generalize ((((w.alloc (.cells zobj 25)).alloc (.cells #[.int .i64 0] 3)).alloc (.cells #[.int .i64 0] 29)).alloc (.cells #[.string s, .int .i64 a, .int .i64 65536] 50)) = w0 at HB0 HK0 HK1 HK2 HK3 hz0 ⊢
  clear hb0 hal hsz1 hsz2 hsz3 k0 k1 k2 k3
  refine (CO.out _ _ HK3.out).mono ?_
  rintro e w1 ⟨⟨ia, ic, rfl, hin⟩, h1, h2⟩
  have HIN := hide hin
  have HB1 := hide (h1.below HB0.out (by omega))
  have hk0 := HK0.out.but h1 (by omega)
  have HK0 := hide hk0
  have HK1 := hide (HK1.out.but h1 (by omega))
  have HK2 := hide (HK2.out.but h1 (by omega))
  have HK3 := hide h2
  obtain ⟨⟨r0, r1, r2, r3, r4, r5⟩, ⟨y0, y1, y2, y3, y4, y5⟩⟩ := hk0.six
  clear hk0 h1 h2 hin
  go_wp2_with fail
  clear r0 r1 r2 r3 r4 r5 y0 y1 y2 y3 y4 y5
  have HB2 : Hid (Below w.heap.size w ((((((w1.setCell ⟨w.heap.size, 0, none⟩ (.int .i64 6)).setCell ⟨w.heap.size, 1, none⟩ (.bool false)).setCell ⟨w.heap.size, 2, none⟩ (.int .i64 0)).setCell ⟨w.heap.size, 3, none⟩ (.string ⟨#[]⟩)).setCell ⟨w.heap.size, 4, none⟩ (.slice none 0 0)).setCell ⟨w.heap.size, 5, none⟩ (.slice ia 1 ic))) := hide (st6_below HB1.out (Nat.le_refl _) (.int .i64 6) (.bool false) (.int .i64 0) (.string ⟨#[]⟩) (.slice none 0 0) (.slice ia 1 ic))
  have HK0 : Hid (Blk ((((((w1.setCell ⟨w.heap.size, 0, none⟩ (.int .i64 6)).setCell ⟨w.heap.size, 1, none⟩ (.bool false)).setCell ⟨w.heap.size, 2, none⟩ (.int .i64 0)).setCell ⟨w.heap.size, 3, none⟩ (.string ⟨#[]⟩)).setCell ⟨w.heap.size, 4, none⟩ (.slice none 0 0)).setCell ⟨w.heap.size, 5, none⟩ (.slice ia 1 ic)) w.heap.size #[.int .i64 6, .bool false, .int .i64 0, .string ⟨#[]⟩, .slice none 0 0, .slice ia 1 ic] 25) := hide (st6_blk HK0.out _ _ _ _ _ _)
  have HK1 : Hid (Blk ((((((w1.setCell ⟨w.heap.size, 0, none⟩ (.int .i64 6)).setCell ⟨w.heap.size, 1, none⟩ (.bool false)).setCell ⟨w.heap.size, 2, none⟩ (.int .i64 0)).setCell ⟨w.heap.size, 3, none⟩ (.string ⟨#[]⟩)).setCell ⟨w.heap.size, 4, none⟩ (.slice none 0 0)).setCell ⟨w.heap.size, 5, none⟩ (.slice ia 1 ic)) (w.heap.size + 1) #[.int .i64 0] 3) := hide ((st6_block (w := w1) (b := w.heap.size) (k := w.heap.size + 1) (by omega) _ _ _ _ _ _).trans HK1.out)
  have HK2 : Hid (Blk ((((((w1.setCell ⟨w.heap.size, 0, none⟩ (.int .i64 6)).setCell ⟨w.heap.size, 1, none⟩ (.bool false)).setCell ⟨w.heap.size, 2, none⟩ (.int .i64 0)).setCell ⟨w.heap.size, 3, none⟩ (.string ⟨#[]⟩)).setCell ⟨w.heap.size, 4, none⟩ (.slice none 0 0)).setCell ⟨w.heap.size, 5, none⟩ (.slice ia 1 ic)) (w.heap.size + 1 + 1) #[.int .i64 0] 29) := hide ((st6_block (w := w1) (b := w.heap.size) (k := w.heap.size + 1 + 1) (by omega) _ _ _ _ _ _).trans HK2.out)
  have HK3 : Hid (RAt ((((((w1.setCell ⟨w.heap.size, 0, none⟩ (.int .i64 6)).setCell ⟨w.heap.size, 1, none⟩ (.bool false)).setCell ⟨w.heap.size, 2, none⟩ (.int .i64 0)).setCell ⟨w.heap.size, 3, none⟩ (.string ⟨#[]⟩)).setCell ⟨w.heap.size, 4, none⟩ (.slice none 0 0)).setCell ⟨w.heap.size, 5, none⟩ (.slice ia 1 ic)) (w.heap.size + 1 + 1 + 1) s e2 (65536 - 1 - 1)) := hide (st6_rat HK3.out (by omega) _ _ _ _ _ _)
  have HIN : Hid (OIn (fresh (w.heap.size + 1 + 1 + 1 + 1) ((((((w1.setCell ⟨w.heap.size, 0, none⟩ (.int .i64 6)).setCell ⟨w.heap.size, 1, none⟩ (.bool false)).setCell ⟨w.heap.size, 2, none⟩ (.int .i64 0)).setCell ⟨w.heap.size, 3, none⟩ (.string ⟨#[]⟩)).setCell ⟨w.heap.size, 4, none⟩ (.slice none 0 0)).setCell ⟨w.heap.size, 5, none⟩ (.slice ia 1 ic))) arrP (arrT x) none 0 ia ic) := hide (HIN.out.sub (only_sub (Nat.le_of_eq (st6_size _ _ _ _ _ _ _ _).symm) fun k h1 _ => ⟨by omega, st6_block (w := w1) (b := w.heap.size) (k := k) (by omega) _ _ _ _ _ _⟩))
  generalize ((((((w1.setCell ⟨w.heap.size, 0, none⟩ (.int .i64 6)).setCell ⟨w.heap.size, 1, none⟩ (.bool false)).setCell ⟨w.heap.size, 2, none⟩ (.int .i64 0)).setCell ⟨w.heap.size, 3, none⟩ (.string ⟨#[]⟩)).setCell ⟨w.heap.size, 4, none⟩ (.slice none 0 0)).setCell ⟨w.heap.size, 5, none⟩ (.slice ia 1 ic)) = w2 at HB2 HK0 HK1 HK2 HK3 HIN ⊢
  obtain ⟨⟨q0, q1, q2, q3, q4, q5⟩, ⟨y0, y1, y2, y3, y4, y5⟩⟩ := HK0.out.six
  have n0 := HK1.out.cell 0
  have n1 := HK1.out.frozen 0
  have m0 := HK2.out.cell 0
  have m1 := HK2.out.frozen 0
  obtain ⟨⟨c0, c1, c2⟩, z0, z1, z2⟩ := HK3.out.three
  simp at n0 m0
  go_region
  have HB6 : Hid (Below w.heap.size w ((((((w2.setCell ⟨w.heap.size, 0, none⟩ (.int .i64 6)).setCell ⟨w.heap.size, 1, none⟩ (.bool false)).setCell ⟨w.heap.size, 2, none⟩ (.int .i64 0)).setCell ⟨w.heap.size, 3, none⟩ (.string ⟨#[]⟩)).setCell ⟨w.heap.size, 4, none⟩ (.slice none 0 0)).setCell ⟨w.heap.size, 5, none⟩ (.slice ia 1 ic))) := hide (st6_below HB2.out (b := w.heap.size) (Nat.le_refl _) (.int .i64 6) (.bool false) (.int .i64 0) (.string ⟨#[]⟩) (.slice none 0 0) (.slice ia 1 ic))
  have HK6 : Hid (Blk ((((((w2.setCell ⟨w.heap.size, 0, none⟩ (.int .i64 6)).setCell ⟨w.heap.size, 1, none⟩ (.bool false)).setCell ⟨w.heap.size, 2, none⟩ (.int .i64 0)).setCell ⟨w.heap.size, 3, none⟩ (.string ⟨#[]⟩)).setCell ⟨w.heap.size, 4, none⟩ (.slice none 0 0)).setCell ⟨w.heap.size, 5, none⟩ (.slice ia 1 ic)) w.heap.size #[.int .i64 6, .bool false, .int .i64 0, .string ⟨#[]⟩, .slice none 0 0, .slice ia 1 ic] 25) := hide (st6_blk HK0.out (.int .i64 6) (.bool false) (.int .i64 0) (.string ⟨#[]⟩) (.slice none 0 0) (.slice ia 1 ic))
  have HK7 : Hid (Blk ((((((w2.setCell ⟨w.heap.size, 0, none⟩ (.int .i64 6)).setCell ⟨w.heap.size, 1, none⟩ (.bool false)).setCell ⟨w.heap.size, 2, none⟩ (.int .i64 0)).setCell ⟨w.heap.size, 3, none⟩ (.string ⟨#[]⟩)).setCell ⟨w.heap.size, 4, none⟩ (.slice none 0 0)).setCell ⟨w.heap.size, 5, none⟩ (.slice ia 1 ic)) (w.heap.size + 1) #[.int .i64 0] 3) := hide ((st6_block (w := w2) (b := w.heap.size) (k := w.heap.size + 1) (by omega) _ _ _ _ _ _).trans HK1.out)
  have HK8 : Hid (Blk ((((((w2.setCell ⟨w.heap.size, 0, none⟩ (.int .i64 6)).setCell ⟨w.heap.size, 1, none⟩ (.bool false)).setCell ⟨w.heap.size, 2, none⟩ (.int .i64 0)).setCell ⟨w.heap.size, 3, none⟩ (.string ⟨#[]⟩)).setCell ⟨w.heap.size, 4, none⟩ (.slice none 0 0)).setCell ⟨w.heap.size, 5, none⟩ (.slice ia 1 ic)) (w.heap.size + 1 + 1) #[.int .i64 0] 29) := hide ((st6_block (w := w2) (b := w.heap.size) (k := w.heap.size + 1 + 1) (by omega) _ _ _ _ _ _).trans HK2.out)
  have HI6 : Hid (OIn (fresh (w.heap.size + 1 + 1 + 1 + 1) ((((((w2.setCell ⟨w.heap.size, 0, none⟩ (.int .i64 6)).setCell ⟨w.heap.size, 1, none⟩ (.bool false)).setCell ⟨w.heap.size, 2, none⟩ (.int .i64 0)).setCell ⟨w.heap.size, 3, none⟩ (.string ⟨#[]⟩)).setCell ⟨w.heap.size, 4, none⟩ (.slice none 0 0)).setCell ⟨w.heap.size, 5, none⟩ (.slice ia 1 ic))) arrP (arrT x) none 0 ia ic) := hide (HIN.out.sub (only_sub (Nat.le_of_eq (st6_size _ _ _ _ _ _ _ _).symm) fun k h1 _ => ⟨by omega, st6_block (w := w2) (b := w.heap.size) (k := k) (by omega) _ _ _ _ _ _⟩))
  generalize ((((((w2.setCell ⟨w.heap.size, 0, none⟩ (.int .i64 6)).setCell ⟨w.heap.size, 1, none⟩ (.bool false)).setCell ⟨w.heap.size, 2, none⟩ (.int .i64 0)).setCell ⟨w.heap.size, 3, none⟩ (.string ⟨#[]⟩)).setCell ⟨w.heap.size, 4, none⟩ (.slice none 0 0)).setCell ⟨w.heap.size, 5, none⟩ (.slice ia 1 ic)) = wA at HB6 HK6 HK7 HK8 HI6 ⊢
  clear HB2 HK0 HK1 HK2 HK3 HIN HB1 q0 q1 q2 q3 q4 q5 y0 y1 y2 y3 y4 y5 n0 n1 m0 m1 c0 c1 c2 z0 z1 z2
  have FB : Hid (Below w.heap.size w ((wA.setCell ⟨w.heap.size + 1, 0, none⟩ (.int .i64 e2)).setCell ⟨w.heap.size + 1 + 1, 0, none⟩ (.int .i64 0))) := hide ((HB6.out.setCell (p := ⟨w.heap.size + 1, 0, none⟩) (by simp) (.int .i64 e2)).setCell (p := ⟨w.heap.size + 1 + 1, 0, none⟩) (by simp; omega) (.int .i64 0))
  have F0 := hide ((HK6.out.other (b' := w.heap.size + 1) (by omega) 0 (.int .i64 e2)).other (b' := w.heap.size + 1 + 1) (by omega) 0 (.int .i64 0))
  have F1 : Hid (Blk ((wA.setCell ⟨w.heap.size + 1, 0, none⟩ (.int .i64 e2)).setCell ⟨w.heap.size + 1 + 1, 0, none⟩ (.int .i64 0)) (w.heap.size + 1) #[.int .i64 e2] 3) := hide ((HK7.out.set 0 (.int .i64 e2)).other (b' := w.heap.size + 1 + 1) (by omega) 0 (.int .i64 0))
  have F2 : Hid (Blk ((wA.setCell ⟨w.heap.size + 1, 0, none⟩ (.int .i64 e2)).setCell ⟨w.heap.size + 1 + 1, 0, none⟩ (.int .i64 0)) (w.heap.size + 1 + 1) #[.int .i64 0] 29) := hide ((HK8.out.other (b' := w.heap.size + 1) (by omega) 0 (.int .i64 e2)).set 0 (.int .i64 0))
  have FI : Hid (OIn (fresh w.heap.size ((wA.setCell ⟨w.heap.size + 1, 0, none⟩ (.int .i64 e2)).setCell ⟨w.heap.size + 1 + 1, 0, none⟩ (.int .i64 0))) arrP (arrT x) none 0 ia ic) := hide (HI6.out.sub (only_sub (by simp [World.setCell]) fun k h1 _ => ⟨by omega, by rw [Below.heap_setCell _ _ _ _ (by simp; omega), Below.heap_setCell _ _ _ _ (by simp; omega)]⟩))
  generalize (wA.setCell ⟨w.heap.size + 1, 0, none⟩ (.int .i64 e2)).setCell ⟨w.heap.size + 1 + 1, 0, none⟩ (.int .i64 0) = wB at FB F0 F1 F2 FI ⊢
  have FB : Hid (Below w.heap.size w wB.drew) := hide FB.out.drew
  have F0 : Hid (Blk wB.drew w.heap.size #[.int .i64 6, .bool false, .int .i64 0, .string ⟨#[]⟩, .slice none 0 0, .slice ia 1 ic] 25) := hide F0.out
  have F1 : Hid (Blk wB.drew (w.heap.size + 1) #[.int .i64 e2] 3) := hide F1.out
  have F2 : Hid (Blk wB.drew (w.heap.size + 1 + 1) #[.int .i64 0] 29) := hide F2.out
  have FI : Hid (OIn (fresh w.heap.size wB.drew) arrP (arrT x) none 0 ia ic) := hide (FI.out.sub (only_sub (Nat.le_refl _) fun k h1 _ => ⟨h1, rfl⟩))
  generalize wB.drew = wf at FB F0 F1 F2 FI ⊢
  go_wp2_with fail
  refine leaves_cons (f := 23) (args := #[.pointer (some ⟨w.heap.size, 0, none⟩), .pointer (some ⟨w.heap.size + 1, 0, none⟩), .pointer (some ⟨w.heap.size + 1 + 1, 0, none⟩)]) (by simp) (by simp [go_sem]) ?_
  refine (catch_idle _ _ _ _).mono ?_
  rintro e u' w'' ⟨rfl, rfl, rfl⟩
  obtain ⟨⟨f0, f1, f2, f3, f4, f5⟩, _⟩ := F0.out.six
  have g0 : w''.cell? ⟨w.heap.size + 1, 0, none⟩ = some (.int .i64 e2) := F1.out.cell 0
  have g1 : w''.cell? ⟨w.heap.size + 1 + 1, 0, none⟩ = some (.int .i64 0) := F2.out.cell 0
  refine ⟨.tuple #[ov arrP none 0 ia 1 ic, .int .i64 e2, .int .i64 0], ?_, ⟨ia, ic, rfl, FI.out⟩, FB.out⟩
  simp [results, Tryz.results14, go_sem, f0, f1, f2, f3, f4, f5, g0, g1]
end Go.Proofs.YtalmcdbdibpgkaaGreatDoor
/-
  The law's own wakes: it answers true.
-/
namespace Go.Proofs.YtalmcdbdibpgkaaGreatDoor
open Go.RowKit Go.Deep

theorem BRow.shape {w : World} {B : Nat} {v : Value} {ys : List UInt8} (h : BRow w B v ys) : ∃ a cap, v = .slice a ys.length cap := by
  obtain ⟨_, ⟨h0, h1⟩ | ⟨g, cap, cur, hv, _⟩⟩ := h
  · exact ⟨none, 0, by rw [h0, h1]⟩
  · exact ⟨_, cap, hv⟩
set_option maxRecDepth 8000 in
set_option maxHeartbeats 4000000 in
theorem aobj_name (p : Pay) (n : Nat) (ka : Option Addr) (kc : Nat) (ia : Option Addr) (ic : Nat) (w : World) (hk : p.kind = 4) (ht : p.text.size ≤ 127) :
    Calls Tryz.prog 21 #[.slice none 0 0, ov p ka kc ia n ic] w fun e w' => ∃ v', e = .returned v' ∧ BRow w' w.heap.size v' (nameT p.text.data.toList) ∧ Below w.heap.size w w' := by
  have CN := hide (appendName_any (.slice none 0 0) [] w.heap.size p.text (w.alloc (.cells (obox p ka kc ia n ic) 25)) (BRow.nil _ _) (by simp) (by simp; omega))
  have HB := hide ((Below.refl w.heap.size w).alloc (Nat.le_refl _) (.cells (obox p ka kc ia n ic) 25))
  have e1 : (p.kind == 1) = false := by rw [hk]; rfl
  have e2 : (p.kind == 2) = false := by rw [hk]; rfl
  have e3 : (p.kind == 3) = false := by rw [hk]; rfl
  have e4 : (p.kind == 4) = true := by rw [hk]; rfl
  clear hk ht
  go_enter Tryz.func21, Tryz.ntmps21
  go_wp2_with (go_at_call 32; refine CN.out.mono ?_; rintro e wy ⟨v', rfl, hb, hw⟩)
  go_ret
  exact ⟨_, rfl, hb, HB.out.trans hw⟩
set_option maxRecDepth 8000 in
set_option maxHeartbeats 4000000 in
theorem print_name (p : Pay) (T : BT Pay) (ka : Option Addr) (kc : Nat) (ia : Option Addr) (ic : Nat) (w : World) (hin : OIn w p T ka kc ia ic) (hk : p.kind = 4) (ht : p.text.size ≤ 127) (hg : decide (0 < goodV p T 0 0) = true) (hn : (nameT p.text.data.toList).length ≤ 1000) :
    Calls Tryz.prog 11 #[ov p ka kc ia (flen T) ic] w fun e w' => e = .returned (.tuple #[.string ⟨(nameT p.text.data.toList).toArray⟩, .int .i64 0]) ∧ Below w.heap.size w w' := by
  have HB := hide ((Below.refl w.heap.size w).alloc (Nat.le_refl _) (.cells (obox p ka kc ia (flen T) ic) 25))
  have CG := hide (oGood_any p T ka kc ia ic _ (hin.below HB.out))
  rw [hg] at CG
  have CA := hide (fun w => aobj_name p (flen T) ka kc ia ic w hk ht)
  have HS := hide (six_box w p ka kc ia (flen T) ic 25)
  have hz : w.heap.size < (w.alloc (.cells (obox p ka kc ia (flen T) ic) 25)).heap.size := by simp
  have HN := hide hn
  clear hin hk ht hg hn
  go_enter Tryz.func11, Tryz.ntmps11
  go_wp2_with fail
  refine CG.out.mono ?_
  rintro e w1 ⟨rfl, h1⟩
  have HB1 := hide (below_t5 HB.out h1)
  obtain ⟨s0, s1, s2, s3, s4, s5⟩ := HS.out.below hz h1
  simp only [Nat.zero_add] at s1 s2 s3 s4 s5
  clear h1
  go_wp2_with fail
  refine (CA.out _).mono ?_
  rintro e w2 ⟨v', rfl, hb, hw⟩
  obtain ⟨a, cap, rfl⟩ := hb.shape
  have hcv := BRow.text hb
  have HW := hide (below_t5 HB1.out hw)
  have hn2 : ((nameT p.text.data.toList).length : Int) ≤ 1000 := by have := HN.out; omega
  generalize (nameT p.text.data.toList).length = N at hcv hn2 ⊢
  clear hb hw s0 s1 s2 s3 s4 s5
  go_wp2_with fail
  go_ret2
  exact ⟨rfl, HW.out⟩
abbrev wakS : ByteArray := ⟨#[32, 91, 32, 49, 50, 32, 48, 32, 82, 93]⟩
theorem wak_word (b : Nat) (w : World) (l : Int) (h : RAt w b wakS 3 l) : Calls Tryz.prog 48 #[.pointer (some ⟨b, 0, none⟩)] w fun e w' => e = .returned (ov (refP 12) none 0 none 0 0) ∧ But b w w' ∧ RAt w' b wakS 9 l :=
  word_ref b wakS 3 l w h (by decide) (by decide) 5 (by decide) ⟨#[49, 50]⟩ (by decide) 12 (by decide) (by rw [ByteArray.toList_eq]; decide) (by rw [ByteArray.toList_eq]; decide) (by rw [ByteArray.toList_eq]; decide) (by decide) (by rw [show Lib.decDigits 12 = [49, 50] by simp [Lib.decDigits]]) 9 (by decide)
theorem wak_ref (b : Nat) (w : World) (l deep : Int) (hl : 1 ≤ l) (hl2 : l ≤ 65536) (h : RAt w b wakS 3 l) : Calls Tryz.prog 24 #[.pointer (some ⟨b, 0, none⟩), .int .i64 deep] w fun e w' => e = .returned (ov (refP 12) none 0 none 0 0) ∧ But b w w' ∧ RAt w' b wakS 9 (l - 1) :=
  object_ref b wakS 3 l deep w h (by decide) (by decide) hl hl2 3 (by decide) (by decide) (by decide) (by decide) (by decide) (by decide) 12 (by decide) (by decide) 9 (fun w h => wak_word b w _ h)
theorem wak_obj (b : Nat) (w : World) (h : RAt w b wakS 0 65536) : Calls Tryz.prog 24 #[.pointer (some ⟨b, 0, none⟩), .int .i64 1] w fun e w' => (∃ ia ic, e = .returned (ov arrP none 0 ia 1 ic) ∧ OIn (fresh w.heap.size w') arrP (arrT 12) none 0 ia ic) ∧ But b w w' ∧ RAt w' b wakS 10 (65536 - 1 - 1) :=
  object_arr b wakS 0 65536 1 w h (by decide) (by decide) (by decide) (by decide) 1 (by decide) (by decide) (by decide) 12 10 (fun w h => array_one b wakS 2 (65536 - 1) 1 w h (by decide) (by decide) (by decide) (by decide) 3 (by decide) (by decide) 12 (by decide) 9 (by decide) 9 (by decide) (by decide) (fun w h => wak_ref b w _ _ (by decide) (by decide) h))
theorem wak_parse (w : World) : Calls Tryz.prog 14 #[.string wakS, .int .i64 0] w fun e w' => (∃ ia ic, e = .returned (.tuple #[ov arrP none 0 ia 1 ic, .int .i64 10, .int .i64 0]) ∧ OIn (fresh w.heap.size w') arrP (arrT 12) none 0 ia ic) ∧ Below w.heap.size w w' :=
  parse_arr wakS 0 w (by decide) (by decide) 12 10 (fun b w h => wak_obj b w h)
abbrev wakP : Pay := ⟨4, false, 0, ⟨#[65, 32, 98, 35]⟩, []⟩
theorem wak_in (w : World) : OIn w wakP .nil none 0 none 0 :=
  ⟨⟨⟨by decide, by decide⟩, ⟨by decide, by decide⟩, by decide, by simp⟩, ⟨Or.inl rfl, ⟨by simp, by simp⟩, by omega⟩, ⟨by simp [flen], by simp [flen]⟩, by omega, Or.inl rfl⟩
theorem wak_print (w : World) : Calls Tryz.prog 11 #[.agg #[.int .i64 4, .bool false, .int .i64 0, .string ⟨#[65, 32, 98, 35]⟩, .slice none 0 0, .slice none 0 0]] w fun e w' => e = .returned (.tuple #[.string ⟨#[47, 65, 35, 50, 48, 98, 35, 50, 51]⟩, .int .i64 0]) ∧ Below w.heap.size w w' := by
  have h := print_name wakP .nil none 0 none 0 w (wak_in w) rfl (by decide) (by decide) (by decide)
  have hN : nameT wakP.text.data.toList = [47, 65, 35, 50, 48, 98, 35, 50, 51] := by decide
  rw [hN] at h
  exact h
set_option maxRecDepth 8000 in
set_option maxHeartbeats 4000000 in
theorem wakes_any (w : World) : Calls Tryz.prog 9 #[] w fun e w' => e = .returned (.bool true) ∧ Below w.heap.size w w' := by
  have CP := hide wak_print
  have CR := hide wak_parse
  go_enter Tryz.func9, Tryz.ntmps9
  go_wp2_with fail
  refine (CP.out _).mono ?_
  rintro e w1 ⟨rfl, h1⟩
  have H1 := hide h1
  clear h1
  go_wp2_with fail
  refine (CR.out _).mono ?_
  rintro e w2 ⟨⟨ia, ic, rfl, hin⟩, h2⟩
  have H2 := hide (below_t5 H1.out h2)
  obtain ⟨_, _, ⟨hi1, _⟩, hi2, hi3⟩ := hin
  rcases hi3 with hi3 | ⟨b', off', rfl, hb, hR⟩
  · simp [flen] at hi3
  obtain ⟨⟨ka, kc, ja, jc, h6, _⟩, _⟩ := rows_node.1 hR
  have hb' : b' < w2.heap.size := by rw [fresh, only_size] at hb; exact hb
  have c2 := (h6.sub (fresh_sub _ _)).2.2.1
  have hi1' : 1 ≤ ic := hi1
  clear h2 hi1 hR hb h6
  go_wp2_with fail
  go_ret
  exact ⟨rfl, H2.out.alloc H2.out.size _⟩
end Go.Proofs.YtalmcdbdibpgkaaGreatDoor
/-
  The law's own large: it answers a number, and turns nothing.
-/
namespace Go.Proofs.YtalmcdbdibpgkaaGreatDoor
open Go.RowKit Go.Deep

set_option maxHeartbeats 4000000 in
theorem large_step (M : Nat)
    (ih : ∀ (p : Pay) (T : BT Pay) (ka : Option Addr) (kc : Nat) (ia : Option Addr) (ic : Nat) (nest n : Int) (w : World), fsize T < M → OIn w p T ka kc ia ic →
      Calls Tryz.prog 20 #[ov p ka kc ia (flen T) ic, .int .i64 nest, .int .i64 n] w fun e w' => (∃ r : Int, e = .returned (.int .i64 r)) ∧ Below w.heap.size w w')
    (p : Pay) (T : BT Pay) (ka : Option Addr) (kc : Nat) (ia : Option Addr) (ic : Nat) (nest n : Int) (w : World) (hM : fsize T ≤ M) (hin : OIn w p T ka kc ia ic) :
      Calls Tryz.prog 20 #[ov p ka kc ia (flen T) ic, .int .i64 nest, .int .i64 n] w fun e w' => (∃ r : Int, e = .returned (.int .i64 r)) ∧ Below w.heap.size w w' := by
  have IH := hide ih
  have HI := hide hin
  have HM := hide hM
  have hl1 : (flen T : Int) ≤ 9223372036854775807 := by have h := hin.2.2.1; have h' := hin.2.2.2.1; omega
  have hl0 : (0 : Int) ≤ (flen T : Int) := by omega
  have hl3 : (p.keys.length : Int) ≤ 9223372036854775807 := by have h := hin.2.1.2.1; have h' := hin.2.1.2.2; omega
  have hS := six_box w p ka kc ia (flen T) ic 25
  have HS := hide hS
  clear ih hin hM hS
  go_enter Tryz.func20, Tryz.ntmps20
  go_wp2_with fail
  any_goals (go_ret; exact ⟨⟨_, rfl⟩, (Below.refl _ _).alloc (Nat.le_refl _) _⟩)
  have HB := hide ((Below.refl w.heap.size w).alloc (Nat.le_refl _) (.cells #[.int .i64 p.kind, .bool p.flag, .int .i64 p.num, .string p.text, .slice ka p.keys.length kc, .slice ia (flen T) ic] 25))
  have hsz : w.heap.size < (w.alloc (.cells #[.int .i64 p.kind, .bool p.flag, .int .i64 p.num, .string p.text, .slice ka p.keys.length kc, .slice ia (flen T) ic] 25)).heap.size := by simp
  rename_i hx1 hx2 _ _
  clear hx1 hx2
  go_loopw [7, 8] (fun vn vi wr => ∃ (m : Int) (i : Nat), vn = .int .i64 m ∧ vi = .int .i64 i ∧ Hid (i ≤ p.keys.length ∧ Below w.heap.size w wr ∧ Six wr w.heap.size 0 p ka kc ia (flen T) ic ∧ w.heap.size < wr.heap.size)) (fun _ vi _ => p.keys.length - (intOf vi).toNat)
  case atStart => exact ⟨_, 0, rfl, rfl, hide ⟨Nat.zero_le _, HB.out, HS.out, hsz⟩⟩
  case round =>
    clear HB HS hsz
    obtain ⟨m, i, rfl, rfl, HV⟩ := hrel
    obtain ⟨hi, hbel, h6, hsz⟩ := HV.out
    clear HV
    have HB := hide hbel
    have H6 := hide h6
    obtain ⟨s0, s1, s2, s3, s4, s5⟩ := h6
    simp only [Nat.zero_add] at s1 s2 s3 s4 s5
    have hi0 : (0 : Int) ≤ (i : Int) := by omega
    by_cases hlt : i < p.keys.length
    case pos =>
      obtain ⟨b, off, rfl, hb, hc⟩ := HI.out.2.1.1.get5 hlt
      have c1 := (hbel.cell (p := ⟨b, off + i, none⟩) hb).trans hc
      have hlt1 : (i : Int) < (p.keys.length : Int) := by omega
      generalize p.keys.getD i ByteArray.empty = x at c1
      have HLT := hide hlt
      clear hc hbel hlt hi
      go_wp2_with fail
      go_roundw
      case rel => exact ⟨_, i + 1, rfl, by go_num, hide ⟨HLT.out, HB.out, H6.out, hsz⟩⟩
      case measure => have := HLT.out; simp [intOf]; omega
    case neg =>
      clear hbel hi
      go_wp2_with fail
      clear s0 s1 s2 s3 s4 s5
      obtain ⟨b, off, hia, hrows⟩ := OIn.at_ HI.out
      have HR := hide hrows
      have HIA := hide hia
      clear hrows hia
      go_loopw [7, 9] (fun vn vi wr => ∃ (m : Int) (k : Nat) (U : BT Pay), vn = .int .i64 m ∧ vi = .int .i64 k ∧ Hid (flen U + k = flen T ∧ fsize U ≤ fsize T ∧ Rows w U b (off + k * 6) ∧ Below w.heap.size w wr ∧ Six wr w.heap.size 0 p ka kc ia (flen T) ic ∧ w.heap.size < wr.heap.size)) (fun _ vi _ => flen T - (intOf vi).toNat)
      case atStart => exact ⟨_, 0, T, rfl, rfl, hide ⟨by omega, Nat.le_refl _, by simpa using HR.out, HB.out, H6.out, hsz⟩⟩
      case round =>
        clear HB H6 hsz HR
        obtain ⟨m, k, U, rfl, rfl, HV⟩ := hrel
        obtain ⟨hk, hu, hrow, hbel, h6, hsz⟩ := HV.out
        clear HV
        have HB := hide hbel
        have H6 := hide h6
        obtain ⟨s0, s1, s2, s3, s4, s5⟩ := h6
        simp only [Nat.zero_add] at s1 s2 s3 s4 s5
        have hm : 0 ≤ m ∨ m < 0 := by omega
        cases U with
        | nil =>
          have hk' : (flen T : Int) ≤ (k : Int) := by simp [flen] at hk; omega
          clear hk hrow hbel hm
          go_wp2_with fail
          go_ret
          exact ⟨⟨_, rfl⟩, HB.out⟩
        | node b0 o0 q TT N =>
          obtain ⟨⟨ka', kc', ia', ic', g6, gin⟩, grest⟩ := rows_node.1 hrow
          obtain rfl | ⟨rfl, hbz⟩ := HIA.out
          · simp [flen] at hk
          have hlt : (k : Int) < (flen T : Int) := by simp [flen] at hk; omega
          have hk0 : (0 : Int) ≤ (k : Int) := by omega
          have hst : fsize TT < M := by have := HM.out; simp [fsize] at hu; omega
          have CI := fun nest => IH.out q TT ka' kc' ia' ic' nest m wr hst (gin.below hbel)
          obtain ⟨c0, c1, c2, c3, c4, c5⟩ := g6.below hbz hbel
          have CI := hide CI
          have HK := hide (show flen N + (k + 1) = flen T ∧ fsize N ≤ fsize T by simp [flen, fsize] at hk hu; omega)
          have HRR := hide grest
          clear hk hu hrow hbel g6 gin grest
          rcases hm with hm | hm
          · go_wp2_with (go_at_call 20; refine (CI.out _).mono ?_; rintro e wy ⟨⟨r, rfl⟩, hy⟩)
            go_roundw
            case rel => exact ⟨r, k + 1, N, rfl, by go_num, hide ⟨HK.out.1, HK.out.2, by have := HRR.out; rw [show off + (k + 1) * 6 = off + k * 6 + 6 by omega]; exact this, below_t5 HB.out hy, H6.out.below hsz hy, Nat.lt_of_lt_of_le hsz hy.size⟩⟩
            case measure => simp [intOf]; omega
          · go_wp2_with fail
            go_ret
            exact ⟨⟨_, rfl⟩, HB.out⟩
theorem large_core : ∀ (M : Nat) (p : Pay) (T : BT Pay) (ka : Option Addr) (kc : Nat) (ia : Option Addr) (ic : Nat) (nest n : Int) (w : World), fsize T < M → OIn w p T ka kc ia ic →
      Calls Tryz.prog 20 #[ov p ka kc ia (flen T) ic, .int .i64 nest, .int .i64 n] w fun e w' => (∃ r : Int, e = .returned (.int .i64 r)) ∧ Below w.heap.size w w'
  | 0 => fun _ _ _ _ _ _ _ _ _ h => absurd h (Nat.not_lt_zero _)
  | M + 1 => fun p T ka kc ia ic nest n w hM hin => large_step M (large_core M) p T ka kc ia ic nest n w (by omega) hin
theorem large_any (p : Pay) (T : BT Pay) (ka : Option Addr) (kc : Nat) (ia : Option Addr) (ic : Nat) (w : World) (hin : OIn w p T ka kc ia ic) :
    Calls Tryz.prog 8 #[ov p ka kc ia (flen T) ic] w fun e w' => (∃ r : Bool, e = .returned (.bool r)) ∧ Below w.heap.size w w' := by
  have C := hide (fun nest n w' h => large_core (fsize T + 1) p T ka kc ia ic nest n w' (Nat.lt_succ_self _) (OIn.below (w := w) (w' := w') h hin))
  clear hin
  go_enter Tryz.func8, Tryz.ntmps8
  go_wp2_with (go_at_call 20; refine (C.out _ _ _ ((Below.refl _ _).alloc (Nat.le_refl _) _)).mono ?_; rintro e wy ⟨⟨r, rfl⟩, hy⟩)
  all_goals
    go_ret
    exact ⟨⟨_, rfl⟩, below_t5 ((Below.refl _ _).alloc (Nat.le_refl _) _) hy⟩
end Go.Proofs.YtalmcdbdibpgkaaGreatDoor
/-
  The law ObjGets, walked: of any object that lies, any key.
-/
namespace Go.Proofs.YtalmcdbdibpgkaaGreatDoor
open Go.RowKit Go.Deep

theorem eqS_refl (a : ByteArray) : eqS a a = true := by unfold eqS; simp
theorem keysEq_refl : ∀ l : List ByteArray, keysEq l l = true
  | [] => rfl
  | a :: l => by rw [keysEq, eqS_refl, keysEq_refl l]; rfl
theorem payEq_refl (p : Pay) : payEq p p = true := by unfold payEq; rw [eqS_refl, keysEq_refl]; simp
theorem sameF_refl : ∀ T : BT Pay, sameF T T = true
  | .nil => rfl
  | .node _ _ p T N => by rw [sameF, payEq_refl, sameF_refl T, sameF_refl N]; rfl
theorem sameV_refl (p : Pay) (T : BT Pay) : sameV p T p T = true := by unfold sameV; rw [payEq_refl, sameF_refl]; rfl
theorem Got.form {w : World} {R : Option (Pay × BT Pay)} {e : Ending} (h : Got w R e) : ∃ ka kc ia ic, e = .returned (.tuple #[ov (R.getD (zpay, .nil)).1 ka kc ia (flen (R.getD (zpay, .nil)).2) ic, .bool R.isSome]) ∧ OIn w (R.getD (zpay, .nil)).1 (R.getD (zpay, .nil)).2 ka kc ia ic := by
  cases R with
  | none => exact ⟨none, 0, none, 0, h, zin w⟩
  | some r =>
    obtain ⟨q, U⟩ := r
    exact h
theorem rsame_any (p q : Pay) (T U : BT Pay) (ka kb : Option Addr) (kc kd : Nat) (ia ib : Option Addr) (ic id : Nat) (w : World) (hp : OIn w p T ka kc ia ic) (hq : OIn w q U kb kd ib id) :
    Calls Tryz.prog 13 #[ov p ka kc ia (flen T) ic, ov q kb kd ib (flen U) id] w fun e w' => e = .returned (.bool (sameV p T q U)) ∧ Below w.heap.size w w' :=
  same_core _ p q T U ka kb kc kd ia ib ic id w (Nat.lt_succ_self _) hp hq
end Go.Proofs.YtalmcdbdibpgkaaGreatDoor
