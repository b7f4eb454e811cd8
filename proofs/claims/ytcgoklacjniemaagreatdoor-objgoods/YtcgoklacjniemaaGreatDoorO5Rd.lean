/-
  What the landed reader's small methods answer: passBlanks, take, atEnd.
-/
import Derived.Test.YtcgoklacjniemaaGreatDoorO5Sm
import Derived.Deep.RegionHeld3
import Derived.Deep.QuietTactic
import Derived.BigQuiet
import Derived.Deep.LoopGhost
namespace Go.Proofs.YtcgoklacjniemaaGreatDoor
open Go.RowKit Go.Deep

/- the reader in the block b: the text, the place, how many are left -/
def RAt (w : World) (b : Nat) (s : ByteArray) (a : Nat) (l : Int) : Prop := Blk w b #[.string s, .int .i64 a, .int .i64 l] 55
theorem RAt.at1 {w : World} {b : Nat} {s : ByteArray} {a : Nat} {l : Int} (h : RAt w b s a l) (a' : Nat) : RAt (w.setCell ⟨b, 1, none⟩ (.int .i64 a')) b s a' l := Blk.set h 1 (.int .i64 a')
theorem RAt.three {w : World} {b : Nat} {s : ByteArray} {a : Nat} {l : Int} (h : RAt w b s a l) : (w.cell? ⟨b, 0, none⟩ = some (.string s) ∧ w.cell? ⟨b, 1, none⟩ = some (.int .i64 a) ∧ w.cell? ⟨b, 2, none⟩ = some (.int .i64 l)) ∧ w.frozen? ⟨b, 0, none⟩ = false ∧ w.frozen? ⟨b, 1, none⟩ = false ∧ w.frozen? ⟨b, 2, none⟩ = false :=
  ⟨⟨Blk.cell h 0, Blk.cell h 1, Blk.cell h 2⟩, Blk.frozen h 0, Blk.frozen h 1, Blk.frozen h 2⟩
theorem But.drewN {b : Nat} {w w' : World} (h : But b w w') (n : Nat) : But b w (w'.drewN n) := h.trans (But.of_below (below_drewN' _ n))
theorem RAt.drewN {w : World} {b : Nat} {s : ByteArray} {a : Nat} {l : Int} (h : RAt w b s a l) (n : Nat) : RAt (w.drewN n) b s a l := Blk.below h (below_drewN' _ n)

set_option maxRecDepth 8000 in
set_option maxHeartbeats 4000000 in
theorem take_hit (b : Nat) (s p : ByteArray) (a : Nat) (l : Int) (w : World) (h : RAt w b s a l) (hs : s.size ≤ 16777216) (ha : a ≤ s.size) (hp : p.size ≤ 16) (t : Bool) (ht : Lib.hasPrefix (s.data.toList.drop a) p.data.toList = t) :
    Calls Tryz.prog 51 #[.pointer (some ⟨b, 0, none⟩), .string p] w fun e w' => e = .returned (.bool t) ∧ But b w w' ∧ RAt w' b s (if t then a + p.size else a) l := by
  obtain ⟨⟨c0, c1, c2⟩, z0, z1, z2⟩ := h.three
  have hx : (s.extract a s.size).data.toList = s.data.toList.drop a := by
    rw [Lib.extract_data, List.take_of_length_le (by rw [List.length_drop, ← Lib.size_eq]; exact Nat.le_refl _)]
  have C : Hid (∀ w, Calls Tryz.prog 79 #[.string (s.extract a s.size), .string p] w fun e w' => e = .returned (.bool t) ∧ w' = w) := hide (fun w => by
    have := Any.strings_HasPrefix lays99 (s.extract a s.size) p w
    rwa [hx, ht] at this)
  have H := hide h
  have ha' : (a : Int) ≤ (s.size : Int) := by omega
  have ha0 : (0 : Int) ≤ (a : Int) := by omega
  have hs' : (s.size : Int) ≤ 16777216 := by omega
  have hp' : (p.size : Int) ≤ 16 := by omega
  clear h hx ht ha hs hp
  cases t
  · go_enter Tryz.func51, Tryz.ntmps51
    go_wp2_with fail
    go_quiet ((go_at_call 79; refine Calls.quiet_of_same (C.out _)))
    go_wp2_with fail
    go_ret
    exact ⟨rfl, (But.refl _ _).drewN _, H.out.drewN _⟩
  · go_enter Tryz.func51, Tryz.ntmps51
    go_wp2_with fail
    go_quiet ((go_at_call 79; refine Calls.quiet_of_same (C.out _)))
    go_wp2_with fail
    go_ret
    exact ⟨rfl, ((But.refl _ _).drewN _).trans (But.setCell b _ 1 _), (H.out.drewN nq).at1 (a + p.size)⟩
set_option maxRecDepth 8000 in
set_option maxHeartbeats 4000000 in
theorem pass_any (b : Nat) (s : ByteArray) (a : Nat) (l : Int) (w : World) (h : RAt w b s a l) (hs : s.size ≤ 16777216) (ha : a ≤ s.size) :
    Calls Tryz.prog 50 #[.pointer (some ⟨b, 0, none⟩)] w fun e w' => e = .returned (.tuple #[]) ∧ But b w w' ∧ RAt w' b s (blanksV s.data.toList a) l := by
  obtain ⟨R, hR⟩ : ∃ R, blanksV s.data.toList a = R := ⟨_, rfl⟩
  rw [hR]
  have HR := hide hR
  have HH := hide h
  have hs' : (s.size : Int) ≤ 16777216 := by omega
  clear hR hs h
  go_enter Tryz.func50, Tryz.ntmps50
  go_wp2_with fail
  go_loopg [2] (s.size - a) (fun g _ wr => ∃ k : Nat, Hid (k ≤ s.size ∧ g = s.size - k ∧ blanksV s.data.toList k = R ∧ But b w wr ∧ RAt wr b s k l))
  case atStart => exact ⟨a, hide ⟨ha, rfl, HR.out, But.refl _ _, HH.out⟩⟩
  case round =>
    obtain ⟨k, HK⟩ := hrel
    obtain ⟨k1, kg, k2, k3, k4⟩ := HK.out
    clear HK HR HH
    obtain ⟨⟨c0, c1, c2⟩, z0, z1, z2⟩ := k4.three
    have H3 := hide k3
    have H4 := hide k4
    have hk0 : (0 : Int) ≤ (k : Int) := by omega
    have HG := hide kg
    clear kg k3 k4
    by_cases hlt : k < s.size
    · have hlt' : (k : Int) < (s.size : Int) := by omega
      have hst : blanksV s.data.toList k = if isBl s[k].toNat then blanksV s.data.toList (k + 1) else k := by
        unfold blanksV
        rw [drop_at s k hlt, run]
        split <;> omega
      have CB := hide (fun w => oblank_any s[k].toNat w s[k].toNat_lt)
      cases hb : isBl s[k].toNat
      · rw [hb, if_neg (by simp), k2] at hst
        subst hst
        rw [hb] at CB
        clear k2 hb
        go_wp2_with fail
        go_quiet ((go_at_call 78; refine Calls.quiet_of_same (CB.out _)))
        go_wp2_with fail
        go_end0
        exact ⟨rfl, H3.out.drewN _, H4.out.drewN _⟩
      · rw [hb, if_pos rfl, k2] at hst
        have K := hide hst.symm
        rw [hb] at CB
        clear k2 hb hst
        go_wp2_with fail
        go_quiet ((go_at_call 78; refine Calls.quiet_of_same (CB.out _)))
        go_wp2_with fail
        go_roundg (s.size - (k + 1))
        case measure => have := HG.out; omega
        case rel => exact ⟨k + 1, hide ⟨by omega, rfl, K.out, (H3.out.drewN _).trans (But.setCell b _ 1 _), (H4.out.drewN _).at1 (k + 1)⟩⟩
    · have hlt' : decide ((k : Int) < (s.size : Int)) = false := by simp; omega
      have hst : blanksV s.data.toList k = k := by
        unfold blanksV
        rw [List.drop_eq_nil_of_le (by rw [← Lib.size_eq]; omega)]
        rfl
      rw [k2] at hst
      subst hst
      clear k2
      go_wp2_with fail
      go_quiet (fail)
      go_wp2_with fail
      go_end0
      exact ⟨rfl, H3.out.drewN _, H4.out.drewN _⟩
/- does a word or a name end here? -/
def endV (l : List UInt8) (k : Nat) : Bool := match l.drop k with | [] => true | c :: _ => isEnd c.toNat
set_option maxRecDepth 8000 in
set_option maxHeartbeats 4000000 in
theorem atEnd_any (b : Nat) (s : ByteArray) (a : Nat) (l : Int) (w : World) (h : RAt w b s a l) (hs : s.size ≤ 16777216) (ha : a ≤ s.size) :
    Calls Tryz.prog 83 #[.pointer (some ⟨b, 0, none⟩)] w fun e w' => e = .returned (.bool (endV s.data.toList a)) ∧ ∃ n, w' = w.drewN n := by
  obtain ⟨⟨c0, c1, c2⟩, z0, z1, z2⟩ := h.three
  have hs' : (s.size : Int) ≤ 16777216 := by omega
  have ha0 : (0 : Int) ≤ (a : Int) := by omega
  clear hs h
  by_cases hlt : a < s.size
  · have hlt' : (a : Int) < (s.size : Int) := by omega
    have hne : ((a : Int) == (s.size : Int)) = false := by rw [beq_eq_false_iff_ne]; omega
    have he : endV s.data.toList a = (isBl s[a].toNat || isDl s[a].toNat) := by
      unfold endV
      rw [drop_at s a hlt]
      rfl
    rw [he]
    have CB := hide (fun w => oblank_any s[a].toNat w s[a].toNat_lt)
    have CD := hide (fun w => odelim_any s[a].toNat w s[a].toNat_lt)
    generalize isBl s[a].toNat = x at CB
    generalize isDl s[a].toNat = y at CD
    clear he
    cases x
    · go_enter Tryz.func83, Tryz.ntmps83
      go_wp2_with fail
      go_quiet ((first | (go_at_call 78; refine Calls.quiet_of_same (CB.out _)) | (go_at_call 96; refine Calls.quiet_of_same (CD.out _))))
      go_wp2_with fail
      go_ret
      exact ⟨by simp, _, rfl⟩
    · go_enter Tryz.func83, Tryz.ntmps83
      go_wp2_with fail
      go_quiet ((first | (go_at_call 78; refine Calls.quiet_of_same (CB.out _)) | (go_at_call 96; refine Calls.quiet_of_same (CD.out _))))
      go_wp2_with fail
      go_ret
      exact ⟨by simp, _, rfl⟩
  · have hae : a = s.size := by omega
    have hne : ((a : Int) == (s.size : Int)) = true := by rw [beq_iff_eq]; omega
    have he : endV s.data.toList a = true := by
      unfold endV
      rw [List.drop_eq_nil_of_le (by rw [← Lib.size_eq]; omega)]
    rw [he]
    clear he hae
    go_enter Tryz.func83, Tryz.ntmps83
    go_wp2_with fail
    go_quiet (fail)
    go_wp2_with fail
    go_ret
    exact ⟨rfl, _, rfl⟩
end Go.Proofs.YtcgoklacjniemaaGreatDoor
