/-
  What attribute of a tag's reader answers.
-/
import Derived.Test.YtpmdekhjodhdmaaDoorK17O
namespace Go.Proofs.YtpmdekhjodhdmaaDoor.K17
open Go.RowKit Go.Proofs.YtpmdekhjodhdmaaDoor
open Go.Lib
set_option linter.unusedVariables false
set_option linter.unusedSimpArgs false
set_option maxRecDepth 8000

def PlE (R : Except Nat (List UInt8)) (e : Ending) : Prop := match R with
  | .ok t => e = .returned (.tuple #[.string ⟨t.toArray⟩, .int .i64 0, .bool true])
  | .error p => e = .returned (.tuple #[.string ⟨#[]⟩, .int .i64 (p : Int), .bool false])
/- plain, where it stands that its text is read -/
theorem plain_as {b : Nat} {w : World} {a : Nat} {x : ByteArray} {cur : World} {l : List UInt8} (S : Hid (AS b w a x cur l)) (v : List UInt8) (hv : Vt v) (hl : v.length ≤ 1048576) {R : Except Nat (List UInt8)} (hR : pl v = R) :
    Calls Tryd.prog 42 #[.string ⟨v.toArray⟩] cur fun e w' => AS b w a x w' l ∧ PlE R e := by
  have C := plain_any ⟨v.toArray⟩ cur (by rw [size_m]; exact hl) hv
  rw [mk_l, hR] at C
  refine C.mono fun e w' h => ⟨S.out.below h.1, ?_⟩
  have h2 := h.2
  cases R <;> exact h2
theorem cut_as {b : Nat} {w : World} {a : Nat} {x : ByteArray} {cur : World} {l : List UInt8} (S : Hid (AS b w a x cur l)) (hl : l.length ≤ 1048576) {A B : List UInt8} {t : Bool} (h : Lib.cut l [34] = (A, B, t)) :
    Calls Tryd.prog 89 #[.string ⟨l.toArray⟩, .string ⟨#[34]⟩] cur fun e w' => e = .returned (.tuple #[.string ⟨A.toArray⟩, .string ⟨B.toArray⟩, .bool t]) ∧ AS b w a x w' l := by
  obtain ⟨m, hm⟩ := S.out.mx
  have C := Any.strings_Cut lays145 ⟨l.toArray⟩ ⟨#[34]⟩ m cur (by rw [size_m]; omega) hm
  simp only [mk_l] at C
  change Calls Tryd.prog _ _ _ (fun e w' => e = .returned (.tuple #[.string ⟨(Lib.cut l [34]).1.toArray⟩, .string ⟨(Lib.cut l [34]).2.1.toArray⟩, .bool (Lib.cut l [34]).2.2]) ∧ ∃ n, w' = cur.drewN n) at C
  rw [h] at C
  exact C.mono fun e w' ⟨h1, n, h2⟩ => ⟨h1, by rw [h2]; exact S.out.below ⟨rfl, rfl, rfl, Nat.le_refl _, fun _ _ => rfl⟩⟩
theorem idxb_as (v : List UInt8) (cur : World) : Calls Tryd.prog 41 #[.string ⟨v.toArray⟩, .int .u8 60] cur fun e w' => e = .returned (.int .i64 (if 60 ∈ v then ((upto 60 v).length : Int) else -1)) ∧ w' = cur := by
  have C := Any.strings_IndexByte lays137 ⟨v.toArray⟩ 60 cur
  simp only [mk_l] at C
  rw [show ((60 : Int).toNat.toUInt8) = (60 : UInt8) from rfl, idx_upto] at C
  exact C
set_option maxHeartbeats 2000000 in
theorem attribute_any (b : Nat) (l : List UInt8) (w : World) (h : RA w b l) (hm : MX w) (hl : l.length ≤ 1048576) (hv : Vt l) (hg : lays145_ren.g 1 ≠ b) :
    Calls Tryd.prog 75 #[.pointer (some ⟨b, 0, none⟩)] w (AtR b w (att l)) := by
  have HRA := hide h
  have HMX := hide hm
  have HLE := hide hl
  have HG := hide hg
  have HLT := hide h.lt
  unfold att
  cases hn : nm l with
  | none =>
    have C := hide (name_no h hl hn (.cells #[.string ⟨#[]⟩, .string ⟨#[]⟩] 47))
    clear h hm hl hv hg hn
    go_enter Tryd.func75, Tryd.ntmps75
    go_wp2_with (first | (go_at_call 73; refine C.out.mono ?_; rintro e w1 ⟨rfl, hb⟩))
    exact ⟨rfl, rfl, hb⟩
  | some p =>
    obtain ⟨x, r⟩ := p
    have HNM := hide hn
    have hvr := vt_nm hv hn
    have hrl := (nm_len hn).1
    have HLN := hide (show r.length ≤ 1048576 by omega)
    show Calls Tryd.prog _ _ _ (AtR b w (if hp [61] (bk r) then (if hp [34] (bk (tp [61] (bk r))) then (match va (tp [34] (bk (tp [61] (bk r)))) with
      | none => none
      | some (t, q) => some (x, t, q)) else none) else none))
    cases h61 : hp [61] (bk r)
    · rw [if_neg (by simp)]
      have H61 := hide h61
      clear h hm hl hv hg hn hvr hrl h61
      go_enter Tryd.func75, Tryd.ntmps75
      go_wp2_with (first
        | (go_at_call 73; refine (name_as HRA.out HMX.out HLE.out HG.out HNM.out).mono ?_; rintro e w1 ⟨rfl, h2⟩; have S := hide h2; clear h2)
        | (go_at_call 74; refine (blanks_as S HLT.out HG.out (by have := HLN.out; have := bk_le r; have := tp_len [61] (bk r); have := bk_le (tp [61] (bk r)); omega)).mono ?_; rintro e w2 ⟨rfl, h2⟩; have S := hide h2; clear h2)
        | (go_at_call 58; refine (take_as S (p := [61]) H61.out HLT.out HG.out).mono ?_; rintro e w3 ⟨rfl, h2⟩; have S := hide h2; clear h2)
        | (go_at_call 57; refine (must_f _).mono ?_; rintro e w4 ⟨rfl, h2⟩; subst h2))
      exact ⟨rfl, rfl, S.out.bu⟩
    · rw [if_pos rfl]
      have H61 := hide h61
      have hv2 := vt_bk (vt_tp1 (by decide) (vt_bk hvr) h61)
      cases h34 : hp [34] (bk (tp [61] (bk r)))
      · rw [if_neg (by simp)]
        have H34 := hide h34
        obtain ⟨Q, hQ⟩ : ∃ Q : ByteArray, (⟨(tp [34] (bk (tp [61] (bk r)))).toArray⟩ : ByteArray) = Q := ⟨_, rfl⟩
        have HQ := hide hQ
        clear h hm hl hv hg hn hvr hrl h61 h34 hv2 hQ
        go_enter Tryd.func75, Tryd.ntmps75
        go_wp2_with (first
          | (go_at_call 73; refine (name_as HRA.out HMX.out HLE.out HG.out HNM.out).mono ?_; rintro e w1 ⟨rfl, h2⟩; have S := hide h2; clear h2)
          | (go_at_call 74; refine (blanks_as S HLT.out HG.out (by have := HLN.out; have := bk_le r; have := tp_len [61] (bk r); have := bk_le (tp [61] (bk r)); omega)).mono ?_; rintro e w2 ⟨rfl, h2⟩; have S := hide h2; clear h2)
          | (go_at_call 58; refine (take_as S (p := [61]) H61.out HLT.out HG.out).mono ?_; rintro e w3 ⟨rfl, h2⟩; have S := hide h2; clear h2)
          | (go_at_call 58; refine (take_as S (p := [34]) H34.out HLT.out HG.out).mono ?_; rintro e w3 ⟨rfl, h2⟩; have S := hide h2; clear h2)
          | (go_at_call 57; refine (must_t _).mono ?_; rintro e w4 ⟨rfl, h2⟩; subst h2)
          | (go_at_call 57; refine (must_f _).mono ?_; rintro e w4 ⟨rfl, h2⟩; subst h2))
        exact ⟨rfl, rfl, S.out.bu⟩
      · rw [if_pos rfl]
        have H34 := hide h34
        have hvq := vt_tp1 (by decide) hv2 h34
        have hql : (tp [34] (bk (tp [61] (bk r)))).length ≤ 1048576 := by have := bk_le r; have := tp_len [61] (bk r); have := bk_le (tp [61] (bk r)); have := tp_len [34] (bk (tp [61] (bk r))); omega
        obtain ⟨q, hq⟩ : ∃ q, tp [34] (bk (tp [61] (bk r))) = q := ⟨_, rfl⟩
        rw [hq] at hvq hql ⊢
        have HL34 := hide hql
        obtain ⟨Q, hQ⟩ : ∃ Q : ByteArray, (⟨q.toArray⟩ : ByteArray) = Q := ⟨_, rfl⟩
        have HQQ := hide hq
        have HQ := hide hQ
        have hcut := cut_one 34 q
        unfold va
        clear h hm hl hv hg hn hvr hrl h61 h34 hv2 hQ hq
        by_cases hm34 : 34 ∈ q
        · rw [if_pos hm34]
          rw [if_pos hm34] at hcut
          obtain ⟨hvu, hvd⟩ := vt_upto (by decide) hvq hm34
          have HCUT := hide hcut
          have HVU := hide hvu
          obtain ⟨I, hI⟩ : ∃ I : Int, (if 60 ∈ upto 34 q then ((upto 60 (upto 34 q)).length : Int) else -1) = I := ⟨_, rfl⟩
          have HI := hide hI
          by_cases hm60 : 60 ∈ upto 34 q
          · rw [if_pos hm60]
            have hI0 : decide (I < 0) = false := decide_eq_false (by rw [← hI, if_pos hm60]; omega)
            clear hvq hql hcut hm34 hvu hvd hI hm60
            go_enter Tryd.func75, Tryd.ntmps75
            go_wp2_with (first
              | (go_at_call 73; refine (name_as HRA.out HMX.out HLE.out HG.out HNM.out).mono ?_; rintro e w1 ⟨rfl, h2⟩; have S := hide h2; clear h2)
              | (go_at_call 74; refine (blanks_as S HLT.out HG.out (by have := HLN.out; have := bk_le r; have := tp_len [61] (bk r); have := bk_le (tp [61] (bk r)); omega)).mono ?_; rintro e w2 ⟨rfl, h2⟩; have S := hide h2; clear h2)
              | (go_at_call 58; refine (take_as S (p := [61]) H61.out HLT.out HG.out).mono ?_; rintro e w3 ⟨rfl, h2⟩; have S := hide h2; clear h2)
              | (go_at_call 58; refine (take_as S (p := [34]) H34.out HLT.out HG.out).mono ?_; rintro e w3 ⟨rfl, h2⟩; rw [HQQ.out] at h2; have S := hide h2; have c0 := S.out.ra.c0; rw [HQ.out] at c0; clear h2)
              | (go_at_call 89; rw [← HQ.out]; refine (cut_as S HL34.out HCUT.out).mono ?_; rintro e w3 ⟨rfl, h2⟩; have S := hide h2; clear h2)
              | (go_at_call 41; refine (idxb_as _ _).mono ?_; rintro e w3 ⟨rfl, h2⟩; subst h2; simp only [HI.out])
              | (go_at_call 57; refine (must_t _).mono ?_; rintro e w4 ⟨rfl, h2⟩; subst h2)
              | (go_at_call 57; refine (must_f _).mono ?_; rintro e w4 ⟨rfl, h2⟩; subst h2))
            exact ⟨rfl, rfl, S.out.bu⟩
          · rw [if_neg hm60]
            have hI0 : I < 0 := by rw [← hI, if_neg hm60]; omega
            cases hpl : pl (upto 34 q) with
            | error p =>
              have HPL := hide hpl
              clear hvq hql hcut hm34 hvu hvd hI hm60 hpl
              go_enter Tryd.func75, Tryd.ntmps75
              go_wp2_with (first
                | (go_at_call 73; refine (name_as HRA.out HMX.out HLE.out HG.out HNM.out).mono ?_; rintro e w1 ⟨rfl, h2⟩; have S := hide h2; clear h2)
                | (go_at_call 74; refine (blanks_as S HLT.out HG.out (by have := HLN.out; have := bk_le r; have := tp_len [61] (bk r); have := bk_le (tp [61] (bk r)); omega)).mono ?_; rintro e w2 ⟨rfl, h2⟩; have S := hide h2; clear h2)
                | (go_at_call 58; refine (take_as S (p := [61]) H61.out HLT.out HG.out).mono ?_; rintro e w3 ⟨rfl, h2⟩; have S := hide h2; clear h2)
                | (go_at_call 58; refine (take_as S (p := [34]) H34.out HLT.out HG.out).mono ?_; rintro e w3 ⟨rfl, h2⟩; rw [HQQ.out] at h2; have S := hide h2; have c0 := S.out.ra.c0; rw [HQ.out] at c0; clear h2)
                | (go_at_call 89; rw [← HQ.out]; refine (cut_as S HL34.out HCUT.out).mono ?_; rintro e w3 ⟨rfl, h2⟩; have S := hide h2; clear h2)
                | (go_at_call 41; refine (idxb_as _ _).mono ?_; rintro e w3 ⟨rfl, h2⟩; subst h2; simp only [HI.out])
                | (go_at_call 42; refine (plain_as S (upto 34 q) HVU.out (by have := HL34.out; have := upto_le 34 q; omega) HPL.out).mono ?_; rintro e w3 ⟨h2, rfl⟩; have S := hide h2; clear h2)
                | (go_at_call 57; refine (must_t _).mono ?_; rintro e w4 ⟨rfl, h2⟩; subst h2)
                | (go_at_call 57; refine (must_f _).mono ?_; rintro e w4 ⟨rfl, h2⟩; subst h2))
              exact ⟨rfl, rfl, S.out.bu⟩
            | ok t =>
              have HPL := hide hpl
              clear hvq hql hcut hm34 hvu hvd hI hm60 hpl
              go_enter Tryd.func75, Tryd.ntmps75
              go_wp2_with (first
                | (go_at_call 73; refine (name_as HRA.out HMX.out HLE.out HG.out HNM.out).mono ?_; rintro e w1 ⟨rfl, h2⟩; have S := hide h2; clear h2)
                | (go_at_call 74; refine (blanks_as S HLT.out HG.out (by have := HLN.out; have := bk_le r; have := tp_len [61] (bk r); have := bk_le (tp [61] (bk r)); omega)).mono ?_; rintro e w2 ⟨rfl, h2⟩; have S := hide h2; clear h2)
                | (go_at_call 58; refine (take_as S (p := [61]) H61.out HLT.out HG.out).mono ?_; rintro e w3 ⟨rfl, h2⟩; have S := hide h2; clear h2)
                | (go_at_call 58; refine (take_as S (p := [34]) H34.out HLT.out HG.out).mono ?_; rintro e w3 ⟨rfl, h2⟩; rw [HQQ.out] at h2; have S := hide h2; have c0 := S.out.ra.c0; rw [HQ.out] at c0; clear h2)
                | (go_at_call 89; rw [← HQ.out]; refine (cut_as S HL34.out HCUT.out).mono ?_; rintro e w3 ⟨rfl, h2⟩; have S := hide h2; clear h2)
                | (go_at_call 41; refine (idxb_as _ _).mono ?_; rintro e w3 ⟨rfl, h2⟩; subst h2; simp only [HI.out])
                | (go_at_call 42; refine (plain_as S (upto 34 q) HVU.out (by have := HL34.out; have := upto_le 34 q; omega) HPL.out).mono ?_; rintro e w3 ⟨h2, rfl⟩; have S := hide h2; have d0 := S.out.ab.cell 0; have d1 := S.out.ab.cell 1; have f1 := S.out.ab.frozen 1; simp at d0 d1; have e0 := S.out.ra.c0; have e1 := S.out.ra.f0; have y0 := S.out.z.cell 0; have y1 := S.out.z.cell 1; simp at y0 y1; have y2 := S.out.z.frozen 0; have y3 := S.out.z.frozen 1; have n1 : ¬ w1.heap.size = b := (by have := S.out.ne; have := HLT.out; omega); have n2 : ¬ b = w1.heap.size := (fun h => n1 h.symm); have n3 : ¬ w.heap.size = w1.heap.size := (by have := S.out.ne; omega); have n4 : ¬ w1.heap.size = w.heap.size := (fun h => n3 h.symm); have n5 : ¬ w.heap.size = b := (by have := HLT.out; omega); have n6 : ¬ b = w.heap.size := (fun h => n5 h.symm); clear h2)
                | (go_at_call 57; refine (must_t _).mono ?_; rintro e w4 ⟨rfl, h2⟩; subst h2))
              have F1 := hide ((((S.out.z.other n3 1 (.string ⟨t.toArray⟩)).other n5 0 (.string ⟨(q.drop ((upto 34 q).length + 1)).toArray⟩)).set 0 (.string ⟨x.toArray⟩)).set 1 (.string ⟨t.toArray⟩))
              have F2 := hide ((((S.out.ra.otherR n2 1 (.string ⟨t.toArray⟩)).set (q.drop ((upto 34 q).length + 1))).otherR n6 0 (.string ⟨x.toArray⟩)).otherR n6 1 (.string ⟨t.toArray⟩))
              have F3 := hide ((((S.out.bu.newR (Nat.le_of_lt S.out.ne) 1 (.string ⟨t.toArray⟩)).trans (But.setCell b _ 0 (.string ⟨(q.drop ((upto 34 q).length + 1)).toArray⟩))).newR (Nat.le_refl _) 0 (.string ⟨x.toArray⟩)).newR (Nat.le_refl _) 1 (.string ⟨t.toArray⟩))
              generalize (((w4.setCell ⟨w1.heap.size, 1, none⟩ (.string ⟨t.toArray⟩)).setCell ⟨b, 0, none⟩ (.string ⟨(q.drop ((upto 34 q).length + 1)).toArray⟩)).setCell ⟨w.heap.size, 0, none⟩ (.string ⟨x.toArray⟩)).setCell ⟨w.heap.size, 1, none⟩ (.string ⟨t.toArray⟩) = wf at F1 F2 F3 ⊢
              have g0 := F1.out.cell 0
              have g1 := F1.out.cell 1
              simp at g0 g1
              exact bodyPost_ret (v := .agg #[.string ⟨x.toArray⟩, .string ⟨t.toArray⟩]) (by simp [results, Tryd.results75, go_sem, g0, g1]) rfl ⟨rfl, F2.out, F3.out⟩
        · rw [if_neg hm34]
          rw [if_neg hm34] at hcut
          have HCUT := hide hcut
          clear hvq hql hcut hm34
          go_enter Tryd.func75, Tryd.ntmps75
          go_wp2_with (first
            | (go_at_call 73; refine (name_as HRA.out HMX.out HLE.out HG.out HNM.out).mono ?_; rintro e w1 ⟨rfl, h2⟩; have S := hide h2; clear h2)
            | (go_at_call 74; refine (blanks_as S HLT.out HG.out (by have := HLN.out; have := bk_le r; have := tp_len [61] (bk r); have := bk_le (tp [61] (bk r)); omega)).mono ?_; rintro e w2 ⟨rfl, h2⟩; have S := hide h2; clear h2)
            | (go_at_call 58; refine (take_as S (p := [61]) H61.out HLT.out HG.out).mono ?_; rintro e w3 ⟨rfl, h2⟩; have S := hide h2; clear h2)
            | (go_at_call 58; refine (take_as S (p := [34]) H34.out HLT.out HG.out).mono ?_; rintro e w3 ⟨rfl, h2⟩; rw [HQQ.out] at h2; have S := hide h2; have c0 := S.out.ra.c0; rw [HQ.out] at c0; clear h2)
            | (go_at_call 89; rw [← HQ.out]; refine (cut_as S HL34.out HCUT.out).mono ?_; rintro e w3 ⟨rfl, h2⟩; have S := hide h2; clear h2)
            | (go_at_call 57; refine (must_t _).mono ?_; rintro e w4 ⟨rfl, h2⟩; subst h2)
            | (go_at_call 57; refine (must_f _).mono ?_; rintro e w4 ⟨rfl, h2⟩; subst h2))
          exact ⟨rfl, rfl, S.out.bu⟩

end Go.Proofs.YtpmdekhjodhdmaaDoor.K17
