/-
  What Scan of marks answers.
-/
import Derived.Test.YtpmdekhjodhdmaaDoorK17V
import Derived.Test.YtpmdekhjodhdmaaDoorU4Dec
namespace Go.Proofs.YtpmdekhjodhdmaaDoor.K17
open Go.RowKit Go.Proofs.YtpmdekhjodhdmaaDoor
open Go.Lib
set_option linter.unusedVariables false
set_option linter.unusedSimpArgs false
set_option maxRecDepth 8000

def scR (l : List UInt8) : List Tk × Nat × Int := if (rd st8 l 0).2.2 = 0 then (match scV l with
    | .ok ts => (ts, 0, 0)
    | .error q => ([], q, 170)) else ([], (rd st8 l 0).2.1, 40)
def ScR (w : World) (R : List Tk × Nat × Int) (e : Ending) (w' : World) : Prop := ∃ v, e = .returned (.tuple #[v, .int .i64 (R.2.1 : Int), .int .i64 R.2.2]) ∧ TRow w' w.heap.size v R.1 ∧ Below w.heap.size w w'
def scE (R : Except Nat (List Tk)) : List Tk × Nat × Int := match R with
    | .ok ts => (ts, 0, 0)
    | .error q => ([], q, 170)
theorem plF_err : ∀ (f : Nat) (l : List UInt8) (p : Nat) (acc : List UInt8) {q : Nat}, plF f l p acc = .error q → p ≤ q ∧ q < p + l.length
  | 0, l, p, acc, q, h => by simp [plF] at h
  | f + 1, l, p, acc, q, h => by
    rw [plF] at h
    split at h
    · simp at h
    · rename_i hl
      have hpos := List.length_pos_iff.2 hl
      split at h
      · split at h
        · injection h with h; omega
        · rename_i c n he
          have h1 := ent_bd he
          have h2 := plF_err f _ _ _ h
          rw [List.length_drop] at h2
          omega
      · split at h
        · injection h with h; omega
        · have h1 := dN_pos l hl
          have h2 := plF_err f _ _ _ h
          rw [List.length_drop] at h2
          omega
theorem pl_err {l : List UInt8} {q : Nat} (h : pl l = .error q) : q < l.length := by have := plF_err _ _ _ _ h; omega
theorem tokV_err {l : List UInt8} {q : Nat} (hl : l ≠ []) (h : tokV l = .error q) : q < l.length := by
  have hpos := List.length_pos_iff.2 hl
  unfold tokV at h
  split at h
  · cases ht : tagV l with
    | none => rw [ht] at h; injection h with h; omega
    | some p => obtain ⟨k, x, ps, r⟩ := p; rw [ht] at h; simp at h
  · cases hp : pl (upto 60 l) with
    | error p =>
      rw [hp] at h
      injection h with h
      have := pl_err hp
      have := upto_le 60 l
      omega
    | ok u => rw [hp] at h; simp at h
theorem ext_l (s : ByteArray) (k : Nat) (h : k ≤ s.size) : (s.extract k s.size).data.toList = s.data.toList.drop k := by
  rw [Lib.extract_data, List.take_of_length_le]
  rw [List.length_drop, size_l]; exact Nat.le_refl _
set_option maxHeartbeats 4000000 in
theorem scan_any (s : ByteArray) (w : World) (hg : Glo w) (hm : MX w) (hs : s.size ≤ 65536) :
    Calls Tryd.prog 10 #[.string s] w (ScR w (scR s.data.toList)) := by
  have hs' : (s.size : Int) ≤ 65536 := by omega
  have hl : s.data.toList.length = s.size := size_l s
  obtain ⟨q1, q2⟩ := rd_vt s.data.toList
  unfold scR
  obtain ⟨⟨ZS, P, E⟩, hrd⟩ : ∃ r, rd st8 s.data.toList 0 = r := ⟨_, rfl⟩
  have CD := hide (fun w hg => decode_core s w hg hs ZS P E hrd)
  rw [hrd] at q1 q2 ⊢
  simp only at q1 q2 ⊢
  have CD := hide (CD.out w hg)
  by_cases hE : E = 0
  · subst hE
    rw [if_pos rfl]
    have hv := q2.1 rfl
    change Calls _ _ _ _ (ScR w (scE (scV s.data.toList)))
    obtain ⟨R, hR⟩ : ∃ R, scV s.data.toList = R := ⟨_, rfl⟩
    rw [hR]
    have HSC := hide (show SC s.data.toList 0 [] R by rw [← hR]; exact SC.start _)
    have HV := hide hv
    have HS := hide hs
    have HM := hide hm
    clear hg hs q1 q2 hrd hR hv hm
    go_enter Tryd.func10, Tryd.ntmps10
    go_wp2_with (first | (go_at_call 21; refine CD.out.mono ?_; rintro e w0 ⟨v0, rfl, h1, h2⟩; have HB0 := hide h2; have HM0 := hide (HM.out.below h2); clear h1 h2))
    go_loopw [8, 9] (fun vl va wr => ∃ (pos : Nat) (acc : List Tk), va = .int .i64 pos ∧ Hid (pos ≤ s.size ∧ acc.length ≤ pos ∧ TRow wr w.heap.size vl acc ∧ Below w.heap.size w wr ∧ MX wr ∧ SC (s.data.toList.drop pos) pos acc R ∧ Vt (s.data.toList.drop pos))) (fun _ va _ => s.size - (RowKit.intOf va).toNat)
    case atStart => exact ⟨0, [], rfl, hide ⟨by omega, by simp, TRow.nil _ _, HB0.out, HM0.out, by simpa using HSC.out, by simpa using HV.out⟩⟩
    case round =>
      obtain ⟨pos, acc, rfl, HP⟩ := hrel
      obtain ⟨p1, p2, p3, p4, p5, p6, p7⟩ := HP.out
      clear HP HSC HV HB0 HM0 CD
      by_cases hlt : pos < s.size
      · have hlt' : (pos : Int) < (s.size : Int) := by omega
        have hne := drop_ne s.data.toList pos (by rw [hl]; exact hlt)
        have hex := ext_l s pos p1
        have hzx : (s.extract pos s.size).size = s.size - pos := by rw [ByteArray.size_extract]; omega
        have CT := token_any (s.extract pos s.size) wr p5 (by have := HS.out; omega) (by rw [hex]; exact p7) (by omega)
        rw [hex] at CT
        cases ht : tokV (s.data.toList.drop pos) with
        | error q =>
          have hR := p6.bad hne ht
          subst hR
          rw [ht] at CT
          have CT := hide CT
          have P4 := hide p4
          have hq : (q : Int) ≤ 65536 := by have := tokV_err hne ht; rw [List.length_drop] at this; omega
          clear p3 p4 p5 p6 p7 hne hex hzx ht
          go_wp2_with (first | (go_at_call 22; refine CT.out.mono ?_; rintro e w1 ⟨rfl, h1⟩; have HB1 := hide ((P4.out.trans (h1.mono P4.out.size)).alloc (by have := P4.out.size; have := h1.size; omega) (.cells zt 45)); clear h1))
          go_ret3
          exact ⟨_, rfl, TRow.nil _ _, HB1.out⟩
        | ok p =>
          obtain ⟨t, n⟩ := p
          have hst := p6.step hne ht
          obtain ⟨t1, t2, t3, t4⟩ := tokV_len hne ht
          rw [List.length_drop] at t2
          rw [List.drop_drop] at hst
          have hv3 := t3 p7
          rw [List.drop_drop] at hv3
          rw [ht] at CT
          have CT := hide CT
          have P3 := hide p3
          have P4 := hide p4
          have P5 := hide p5
          have HSTEP := hide (And.intro hst hv3)
          have HPS := hide t4
          have HN := hide (show pos + n ≤ s.size ∧ 1 ≤ n ∧ acc.length + 1 ≤ pos + n by omega)
          have HACC := hide (show acc.length ≤ 1048576 by omega)
          have hn' : (n : Int) ≤ 65536 := by omega
          obtain ⟨m, hm⟩ : ∃ m, pos + n = m := ⟨_, rfl⟩
          rw [hm] at HSTEP HN
          have hpn : (pos : Int) + (n : Int) = (m : Int) := by omega
          have hpn2 : (m : Int) ≤ 65536 := by omega
          have HMM := hide hm
          clear p3 p4 p5 p6 p7 hne hex hzx ht hst hv3 t1 t2 t3 t4 p2 hm
          go_wp2_with (first | (go_at_call 22; refine CT.out.mono ?_; rintro e w1 ⟨va, rfl, h0, h1⟩; obtain ⟨aa, ac, rfl, _⟩ := h0.lst; have hal := (Below.refl w1.heap.size w1).alloc (Nat.le_refl _) (.cells (tcs ({ t with a := pos }, .slice aa t.ps.length ac)).toArray 45); obtain ⟨v2, w2, hr, hrow, hbel⟩ := app_tk { t with a := pos } (w1.heap.size + 1) (by simp) ((P3.out.below h1).below hal) ((h0.lower (Nat.zero_le _)).below hal) (by show t.ps.length ≤ _; have := HPS.out; omega) (by have := P4.out.size; have := h1.size; simp; omega) HACC.out; have hw2 : Below w.heap.size w w2 := ((P4.out.trans (h1.mono P4.out.size)).trans (hal.mono (by have := P4.out.size; have := h1.size; omega))).trans hbel; obtain ⟨a2, c2, hv2, _⟩ := hrow.lst; subst hv2; have HR := hide hr; have HROW := hide hrow; have HBEL := hide hw2; have HMX := hide (HM.out.below hw2); clear hr hrow hbel hw2 hal h0 h1) | (at_builtin; refine Lib.wpList_append_run _ rfl _ _ _ _ rfl _ _ rfl rfl _ _ HR.out ?_))
          go_roundw
          case rel => exact ⟨m, acc ++ [{ t with a := pos }], by first | rfl | go_num, hide ⟨HN.out.1, by rw [List.length_append]; exact HN.out.2.2, by have := HROW.out; simpa using this, HBEL.out, HMX.out, HSTEP.out.1, HSTEP.out.2⟩⟩
          case measure => have := HN.out; have := HMM.out; simp [RowKit.intOf]; omega
      · have hlt' : ¬ (pos : Int) < (s.size : Int) := by omega
        rw [List.drop_eq_nil_of_le (by rw [hl]; omega)] at p6
        have hR := p6.done
        subst hR
        have P3 := hide p3
        have P4 := hide p4
        clear p3 p4 p5 p6 p7
        go_wp2
        go_ret3
        exact ⟨_, rfl, P3.out, P4.out⟩
  · rw [if_neg hE]
    obtain rfl : E = 40 := by rcases q1 with h | h; exact absurd h hE; exact h
    clear hg hs q1 q2 hrd hm hE
    go_enter Tryd.func10, Tryd.ntmps10
    go_wp2_with (first | (go_at_call 21; refine CD.out.mono ?_; rintro e w0 ⟨v0, rfl, h1, h2⟩; have HB0 := hide h2; clear h1 h2))
    go_ret3
    exact ⟨_, rfl, TRow.nil _ _, HB0.out⟩
end Go.Proofs.YtpmdekhjodhdmaaDoor.K17
