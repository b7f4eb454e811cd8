/-
  Joined: K17Rm.
-/
import Derived.Test.YtpmdekhjodhdmaaDoorQ06
import Derived.Test.YtpmdekhjodhdmaaDoorQ17
import Derived.Test.YtpmdekhjodhdmaaDoorQ23
import Derived.Test.YtpmdekhjodhdmaaDoorQ25
namespace Go.Proofs.YtpmdekhjodhdmaaDoor.K17
open Go.RowKit Go.Proofs.YtpmdekhjodhdmaaDoor
open Go.Lib
set_option linter.unusedVariables false
set_option linter.unusedSimpArgs false
set_option maxRecDepth 100000
theorem rtag_any (s : ByteArray) (p : Nat) (w : World) (hs : s.size ≤ 65536) (hp' : p < s.size) (h60 : s[p] = 60) (hv : Vt (s.data.toList.drop p)) :
    Calls Tryd.prog 23 #[.string s, .int .i64 (p : Int)] w (RtR w p s.size (s.data.toList.drop p) (tagR (s.data.toList.drop p))) := by
  have hd : hp [60] (s.data.toList.drop p) = true := by rw [at_hp s p 60 _ rfl hp', h60]; rfl
  have ht := at_tp s p 60 _ rfl hd
  have hv1 : Vt (s.data.toList.drop (p + 1)) := by rw [ht]; exact vt_tp1 (by decide) hv hd
  unfold tagR
  rw [if_pos hd, ← ht]
  by_cases h47 : hp [47] (s.data.toList.drop (p + 1)) = true
  · rw [if_pos h47]
    have hlt : p + 1 < s.size := by
      by_cases h : p + 1 < s.size
      · exact h
      · rw [at_hpe s (p + 1) 47 _ rfl (by omega)] at h47; simp at h47
    have h4 : s[p + 1] = 47 := by rw [at_hp s (p + 1) 47 _ rfl hlt] at h47; exact eq_of_beq h47
    have ht2 := at_tp s (p + 1) 47 _ rfl h47
    rw [← ht2]
    unfold clo
    cases hn : nm (s.data.toList.drop (p + 1 + 1)) with
    | none => exact rtag_cn s p w hs hlt h4 hn
    | some y =>
      obtain ⟨x, l1⟩ := y
      have := rtag_cs s p w x l1 hs hlt h4 hn hv
      simp only
      by_cases h62 : hp [62] (bk l1) = true
      · rw [if_pos h62] at this ⊢; exact this
      · rw [if_neg h62] at this ⊢; exact this
  · rw [if_neg h47]
    unfold opR
    cases hn : nm (s.data.toList.drop (p + 1)) with
    | none => exact rtag_on s p w hs (by omega) (Bool.eq_false_iff.2 h47) hn
    | some y =>
      obtain ⟨x, l1⟩ := y
      exact rtag_os s p w x l1 hs (by omega) (Bool.eq_false_iff.2 h47) hn hv hv1
def TgV (w : World) (p n : Nat) (R : Option (Int × List UInt8 × List At × List UInt8)) (e : Ending) (w' : World) : Prop := Below w.heap.size w w' ∧ match R with
  | some (k, x, ps, r) => ∃ v, e = .returned (.tuple #[.agg #[.int .i64 k, .string ⟨x.toArray⟩, .string ⟨#[]⟩, v, .int .i64 (p : Int)], .int .i64 ((n - r.length : Nat) : Int), .bool true]) ∧ ARow w' w.heap.size v ps
  | none => ∃ k1 x y a n c p1 k, e = .returned (.tuple #[.agg #[.int .i64 k1, .string x, .string y, .slice a n c, .int .i64 p1], .int .i64 k, .bool false])
theorem rtag_v (s : ByteArray) (p : Nat) (w : World) (hs : s.size ≤ 65536) (hp' : p < s.size) (h60 : s[p] = 60) (hv : Vt (s.data.toList.drop p)) :
    Calls Tryd.prog 23 #[.string s, .int .i64 (p : Int)] w (TgV w p s.size (tagV (s.data.toList.drop p))) := by
  have h := tagR_tagV hv
  have C := rtag_any s p w hs hp' h60 hv
  cases hR : tagR (s.data.toList.drop p) with
  | none => rw [hR] at h C; rw [h]; exact C
  | some y =>
    obtain ⟨k, x, ps, r⟩ := y
    rw [hR] at h C
    simp only at h
    obtain ⟨h1, h2⟩ := h
    cases hh : HC (s.data.toList.drop p) r with
    | true =>
      rw [h2, if_pos hh]
      refine C.mono ?_
      rintro e w' ⟨hb, v, he, hr⟩
      obtain ⟨a, c, rfl, _⟩ := hr.lst
      rw [hh] at he
      exact ⟨hb, _, _, _, _, _, _, _, _, he⟩
    | false =>
      rw [h2, if_neg (by rw [hh]; simp)]
      refine C.mono ?_
      rintro e w' ⟨hb, v, he, hr⟩
      rw [hh] at he
      exact ⟨hb, v, he, hr⟩
theorem tokV_60 {l : List UInt8} (h : l.getD 0 0 = 60) : tokV l = (match tagV l with
    | none => .error 0
    | some (k, x, ps, r) => .ok (⟨k, x, [], ps, 0⟩, l.length - r.length)) := by
  unfold tokV
  rw [if_pos h]
  cases tagV l <;> rfl
theorem tokV_ne {l : List UInt8} (h : ¬ l.getD 0 0 = 60) : tokV l = (match pl (upto 60 l) with
    | .error p => .error p
    | .ok t => .ok (⟨4, [], t, [], 0⟩, (upto 60 l).length)) := by
  unfold tokV
  rw [if_neg h]
  cases pl (upto 60 l) <;> rfl
theorem getD_at (s : ByteArray) (p : Nat) (h : p < s.size) : (s.data.toList.drop p).getD 0 0 = s[p] := by
  rw [List.drop_eq_getElem_cons (by rw [size_l]; exact h)]; rfl
set_option maxHeartbeats 8000000 in
theorem rscan_any (s : ByteArray) (w : World) (hs : s.size ≤ 65536) :
    Calls Tryd.prog 11 #[.string s] w (ScR w (scR s.data.toList)) := by
  have hs' : (s.size : Int) ≤ 65536 := by omega
  have hl : s.data.toList.length = s.size := size_l s
  obtain ⟨q1, q2⟩ := rd_vt s.data.toList
  unfold scR
  obtain ⟨⟨ZS, P, E⟩, hrd⟩ : ∃ r, rd st8 s.data.toList 0 = r := ⟨_, rfl⟩
  have CD := hide (fun w => rdecode_core s w hs ZS P E hrd)
  rw [hrd] at q1 q2 ⊢
  simp only at q1 q2 ⊢
  have CD := hide (CD.out w)
  by_cases hE : E = 0
  · subst hE
    rw [if_pos rfl]
    have hv := q2.1 rfl
    change Calls _ _ _ _ (ScR w (scE (scV s.data.toList)))
    obtain ⟨R, hR⟩ : ∃ R, scV s.data.toList = R := ⟨_, rfl⟩
    rw [hR]
    have HSC := hide (show SC s.data.toList 0 [] R by rw [← hR]; exact SC.start _)
    have HV := hide hv
    have HS := hide hs
    clear hs q1 q2 hrd hR hv
    go_enter Tryd.func11, Tryd.ntmps11
    go_wp2_with (first | (go_at_call 20; refine CD.out.mono ?_; rintro e w0 ⟨v0, rfl, h1, h2⟩; have HB0 := hide h2; clear h1 h2))
    go_loopw [8, 9] (fun vl va wr => ∃ (pos : Nat) (acc : List Tk), va = .int .i64 pos ∧ Hid (pos ≤ s.size ∧ acc.length ≤ pos ∧ TRow wr w.heap.size vl acc ∧ Below w.heap.size w wr ∧ SC (s.data.toList.drop pos) pos acc R ∧ Vt (s.data.toList.drop pos))) (fun _ va _ => s.size - (RowKit.intOf va).toNat)
    case atStart => exact ⟨0, [], rfl, hide ⟨by omega, by simp, TRow.nil _ _, HB0.out, by simpa using HSC.out, by simpa using HV.out⟩⟩
    case round =>
      obtain ⟨pos, acc, rfl, HP⟩ := hrel
      obtain ⟨p1, p2, p3, p4, p6, p7⟩ := HP.out
      clear HP HSC HV HB0 CD
      by_cases hlt : pos < s.size
      · have hlt' : (pos : Int) < (s.size : Int) := by omega
        have hne := drop_ne s.data.toList pos (by rw [hl]; exact hlt)
        have hg := getD_at s pos hlt
        by_cases h60 : s[pos] = 60
        · have f60 : ((s[pos].toNat : Int) == 60) = true := by rw [h60]; rfl
          have CT := rtag_v s pos wr HS.out hlt h60 p7
          have hk := tokV_60 (hg.trans h60)
          cases ht : tagV (s.data.toList.drop pos) with
          | none =>
            rw [ht] at hk CT
            have hR := p6.bad hne hk
            subst hR
            have CT := hide CT
            have P4 := hide p4
            clear p3 p4 p6 p7 hne hg h60 hk ht
            go_wp2_with (first | (go_at_call 23; refine CT.out.mono ?_; rintro e w1 ⟨h1, k1, x, y, a, n, c, q1, k, rfl⟩; have HB1 := hide ((P4.out.trans (h1.mono P4.out.size)).alloc (by have := P4.out.size; have := h1.size; omega) (.cells #[.int .i64 k1, .string x, .string y, .slice a n c, .int .i64 q1] 45)); clear h1))
            go_ret3
            exact ⟨_, rfl, TRow.nil _ _, HB1.out⟩
          | some y =>
            obtain ⟨k, x, ps, r⟩ := y
            rw [ht] at hk CT
            have hst := p6.step hne hk
            obtain ⟨t1, t2, t3, t4⟩ := tokV_len hne hk
            rw [List.length_drop, hl] at t1 t2 hst
            rw [List.length_drop, hl] at t3
            rw [List.drop_drop] at hst t3
            have hv3 := t3 p7
            obtain ⟨m, hm⟩ : ∃ m, pos + (s.size - pos - r.length) = m := ⟨_, rfl⟩
            have hm2 : s.size - r.length = m := by omega
            rw [hm] at hst hv3
            have CT : Calls Tryd.prog 23 #[.string s, .int .i64 (pos : Int)] wr fun e w' => Below wr.heap.size wr w' ∧ ∃ v, e = .returned (.tuple #[.agg #[.int .i64 k, .string ⟨x.toArray⟩, .string ⟨#[]⟩, v, .int .i64 (pos : Int)], .int .i64 (m : Int), .bool true]) ∧ ARow w' wr.heap.size v ps := CT.mono fun e w' h => by
              obtain ⟨h1, v, h2, h3⟩ := h
              rw [hm2] at h2
              exact ⟨h1, v, h2, h3⟩
            have CT := hide CT
            have P3 := hide p3
            have P4 := hide p4
            have HSTEP := hide (And.intro hst hv3)
            have HPS := hide (show ps.length ≤ 16 from t4)
            have HN := hide (show m ≤ s.size ∧ pos < m ∧ acc.length + 1 ≤ m by omega)
            have HACC := hide (show acc.length ≤ 1048576 by omega)
            clear p3 p4 p6 p7 hne hg h60 hk ht hst hv3 t1 t2 t3 t4 p2 hm hm2
            go_wp2_with (first | (go_at_call 23; refine CT.out.mono ?_; rintro e w1 ⟨h1, va, rfl, h0⟩; obtain ⟨aa, ac, rfl, _⟩ := h0.lst; have hal := (Below.refl w1.heap.size w1).alloc (Nat.le_refl _) (.cells (tcs (⟨k, x, [], ps, pos⟩, .slice aa ps.length ac)).toArray 45); obtain ⟨v2, w2, hr, hrow, hbel⟩ := app_tk ⟨k, x, [], ps, pos⟩ (w1.heap.size + 1) (by simp) ((P3.out.below h1).below hal) ((h0.lower (Nat.zero_le _)).below hal) (by show ps.length ≤ _; have := HPS.out; omega) (by have := P4.out.size; have := h1.size; simp; omega) HACC.out; have hw2 : Below w.heap.size w w2 := ((P4.out.trans (h1.mono P4.out.size)).trans (hal.mono (by have := P4.out.size; have := h1.size; omega))).trans hbel; obtain ⟨a2, c2, hv2, _⟩ := hrow.lst; subst hv2; have HR := hide hr; have HROW := hide hrow; have HBEL := hide hw2; clear hr hrow hbel hw2 hal h0 h1) | (at_builtin; refine Lib.wpList_append_run _ rfl _ _ _ _ rfl _ _ rfl rfl _ _ HR.out ?_))
            go_roundw
            case rel => exact ⟨m, acc ++ [⟨k, x, [], ps, pos⟩], by first | rfl | go_num, hide ⟨HN.out.1, by rw [List.length_append]; exact HN.out.2.2, by have := HROW.out; simpa using this, HBEL.out, HSTEP.out.1, HSTEP.out.2⟩⟩
            case measure => have := HN.out; simp [RowKit.intOf]; omega
        · have f60 : ((s[pos].toNat : Int) == 60) = false := by
            rw [beq_eq_false_iff_ne]; intro h; apply h60; apply UInt8.toNat_inj.1; show s[pos].toNat = 60; omega
          have CT := rtext_any s pos wr HS.out (by omega) p7
          have hk := tokV_ne (l := s.data.toList.drop pos) (by rw [hg]; exact h60)
          cases ht : pl (upto 60 (s.data.toList.drop pos)) with
          | error q =>
            rw [ht] at hk CT
            have hR := p6.bad hne hk
            subst hR
            have CT := hide CT
            have P4 := hide p4
            clear p3 p4 p6 p7 hne hg h60 hk ht
            go_wp2_with (first | (go_at_call 24; refine CT.out.mono ?_; rintro e w1 ⟨h1, rfl⟩; have HB1 := hide (P4.out.trans (h1.mono P4.out.size)); clear h1))
            go_ret3
            exact ⟨_, rfl, TRow.nil _ _, HB1.out⟩
          | ok u =>
            rw [ht] at hk CT
            have hst := p6.step hne hk
            obtain ⟨t1, t2, t3, t4⟩ := tokV_len hne hk
            rw [List.length_drop, hl] at t2
            rw [List.drop_drop] at hst t3
            have hv3 := t3 p7
            obtain ⟨m, hm⟩ : ∃ m, pos + (upto 60 (s.data.toList.drop pos)).length = m := ⟨_, rfl⟩
            rw [hm] at hst hv3 CT
            have CT := hide CT
            have P3 := hide p3
            have P4 := hide p4
            have HSTEP := hide (And.intro hst hv3)
            have HN := hide (show m ≤ s.size ∧ pos < m ∧ acc.length + 1 ≤ m by omega)
            have HACC := hide (show acc.length ≤ 1048576 by omega)
            clear p3 p4 p6 p7 hne hg h60 hk ht hst hv3 t1 t2 t3 t4 p2 hm
            go_wp2_with (first | (go_at_call 24; refine CT.out.mono ?_; rintro e w1 ⟨h1, rfl⟩; obtain ⟨v2, w2, hr, hrow, hbel⟩ := app_tk ⟨4, [], u, [], pos⟩ w1.heap.size rfl (P3.out.below h1) (ARow.nil _ _) (by simp) (by have := P4.out.size; have := h1.size; omega) HACC.out; have hw2 : Below w.heap.size w w2 := (P4.out.trans (h1.mono P4.out.size)).trans hbel; obtain ⟨a2, c2, hv2, _⟩ := hrow.lst; subst hv2; have HR := hide hr; have HROW := hide hrow; have HBEL := hide hw2; clear hr hrow hbel hw2 h1) | (at_builtin; refine Lib.wpList_append_run _ rfl _ _ _ _ rfl _ _ rfl rfl _ _ HR.out ?_))
            go_roundw
            case rel => exact ⟨m, acc ++ [⟨4, [], u, [], pos⟩], by first | rfl | go_num, hide ⟨HN.out.1, by rw [List.length_append]; exact HN.out.2.2, by have := HROW.out; simpa using this, HBEL.out, HSTEP.out.1, HSTEP.out.2⟩⟩
            case measure => have := HN.out; simp [RowKit.intOf]; omega
      · have hlt' : ¬ (pos : Int) < (s.size : Int) := by omega
        rw [List.drop_eq_nil_of_le (by rw [hl]; omega)] at p6
        have hR := p6.done
        subst hR
        have P3 := hide p3
        have P4 := hide p4
        clear p3 p4 p6 p7
        go_wp2
        go_ret3
        exact ⟨_, rfl, P3.out, P4.out⟩
  · rw [if_neg hE]
    obtain rfl : E = 40 := by rcases q1 with h | h; exact absurd h hE; exact h
    clear hs q1 q2 hrd hE
    go_enter Tryd.func11, Tryd.ntmps11
    go_wp2_with (first | (go_at_call 20; refine CD.out.mono ?_; rintro e w0 ⟨v0, rfl, h1, h2⟩; have HB0 := hide h2; clear h1 h2))
    go_ret3
    exact ⟨_, rfl, TRow.nil _ _, HB0.out⟩
end Go.Proofs.YtpmdekhjodhdmaaDoor.K17
