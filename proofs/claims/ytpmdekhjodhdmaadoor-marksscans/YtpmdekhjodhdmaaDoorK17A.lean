/-
  What name, closing and attribute of a tag's reader answer.
-/
import Derived.Test.YtpmdekhjodhdmaaDoorK17M
import Derived.Test.YtpmdekhjodhdmaaDoorU4Glo
namespace Go.Proofs.YtpmdekhjodhdmaaDoor.K17
open Go.RowKit Go.Proofs.YtpmdekhjodhdmaaDoor
open Go.Lib
set_option linter.unusedVariables false
set_option linter.unusedSimpArgs false
set_option maxRecDepth 8000

theorem clone_any (s : ByteArray) (w : World) (hs : s.size ≤ 281474976710656) : Calls Tryd.prog 87 #[.string s] w fun e w' => e = .returned (.string s) ∧ Below w.heap.size w w' := by
  have CC := hide (Any.stringslite_Clone laysM316 s w hs)
  go_enter Tryd.func87, Tryd.ntmps87
  go_wp2_with (first | (go_at_call 91; refine CC.out.mono ?_; rintro e w1 ⟨rfl, hb⟩))
  go_ret
  exact ⟨rfl, hb⟩
/- a name with which bytes begin, and what is behind it -/
def nm (l : List UInt8) : Option (List UInt8 × List UInt8) := if isN (l.takeWhile nmB) then some (l.takeWhile nmB, l.dropWhile nmB) else none
theorem nm_len {l x r : List UInt8} (h : nm l = some (x, r)) : r.length < l.length ∧ l = x ++ r := by
  unfold nm at h
  split at h
  · rename_i hn
    simp only [Option.some.injEq, Prod.mk.injEq] at h
    obtain ⟨rfl, rfl⟩ := h
    have e := List.takeWhile_append_dropWhile (p := nmB) (l := l)
    have hl := congrArg List.length e
    rw [List.length_append] at hl
    have : (l.takeWhile nmB).length ≠ 0 := by
      intro h0
      rw [List.length_eq_zero_iff.1 h0] at hn
      exact absurd hn (by decide)
    exact ⟨by omega, e.symm⟩
  · simp at h
theorem tw_take : ∀ (l : List UInt8) (k : Nat), (l.take k).all nmB = true → (∀ b, l[k]? = some b → nmB b = false) → l.takeWhile nmB = l.take k ∧ l.dropWhile nmB = l.drop k
  | [], k, _, _ => by simp
  | b :: l, 0, _, h => by
    have h0 := h b rfl
    rw [List.takeWhile_cons, List.dropWhile_cons, if_neg (by rw [h0]; simp), if_neg (by rw [h0]; simp)]
    exact ⟨rfl, rfl⟩
  | b :: l, k + 1, h, h2 => by
    rw [List.take_succ_cons, List.all_cons, Bool.and_eq_true] at h
    obtain ⟨i1, i2⟩ := tw_take l k h.2 (fun c hc => h2 c (by simpa using hc))
    rw [List.takeWhile_cons, List.dropWhile_cons, if_pos h.1, if_pos h.1, i1, i2]
    exact ⟨rfl, rfl⟩
def NmR (b : Nat) (w : World) (R : Option (List UInt8 × List UInt8)) (e : Ending) (w' : World) : Prop := match R with
  | none => e = thrown ∧ But b w w'
  | some (x, r) => e = .returned (.string ⟨x.toArray⟩) ∧ RA w' b r ∧ But b w w'
theorem getm (l : List UInt8) (k : Nat) (h : k < (⟨l.toArray⟩ : ByteArray).size) : l[k]? = some ((⟨l.toArray⟩ : ByteArray)[k]) := by
  have := get_b ⟨l.toArray⟩ k h
  exact this
set_option maxHeartbeats 1000000 in
theorem name_any (b : Nat) (l : List UInt8) (w : World) (h : RA w b l) (hl : l.length ≤ 1048576) :
    Calls Tryd.prog 73 #[.pointer (some ⟨b, 0, none⟩)] w (NmR b w (nm l)) := by
  have c0 := h.c0
  have f0 := h.f0
  have HR := hide h
  have CN := hide ofname_any
  obtain ⟨S, hS⟩ : ∃ S : ByteArray, (⟨l.toArray⟩ : ByteArray) = S := ⟨_, rfl⟩
  have hsz : S.size = l.length := by rw [← hS]; exact size_m l
  have hgt : ∀ k (hk : k < S.size), l[k]? = some S[k] := fun k hk => by subst hS; exact getm l k hk
  have HG := hide hgt
  have HSS := hide hS
  have HSZ := hide hsz
  have HL := hide hl
  rw [hS] at c0
  have hs' : (S.size : Int) ≤ 1048576 := by omega
  obtain ⟨R, hR⟩ : ∃ R, nm l = R := ⟨_, rfl⟩
  rw [hR]
  have HRR := hide hR
  clear h hS hgt hsz hl hR
  go_enter Tryd.func73, Tryd.ntmps73
  go_wp2
  go_loop [3] (fun vn => ∃ k : Nat, vn = .int .i64 k ∧ Hid (k ≤ S.size ∧ (l.take k).all nmB = true)) (fun vn => S.size - (RowKit.intOf vn).toNat)
  case atStart => exact ⟨0, rfl, hide ⟨by omega, by simp⟩⟩
  case round =>
    obtain ⟨k, rfl, HK⟩ := hrel
    have hk := HK.out.1
    have hk0 : (0 : Int) ≤ (k : Int) := by omega
    /- behind the loop: both ways out -/
    have key : (∀ b, l[k]? = some b → nmB b = false) → l.takeWhile nmB = l.take k ∧ l.dropWhile nmB = l.drop k := fun h2 => tw_take l k HK.out.2 h2
    have KEY := hide key
    have ht : S.extract 0 k = ⟨(l.take k).toArray⟩ := by
      rw [str_eq, Lib.extract_data, ← HSS.out, mk_l, mk_l]; simp
    have hd : S.extract k S.size = ⟨(l.drop k).toArray⟩ := by
      rw [str_eq, Lib.extract_data, HSZ.out, ← HSS.out, mk_l, mk_l]
      rw [List.take_of_length_le]
      rw [List.length_drop]; exact Nat.le_refl _
    have hkz : (k : Int) ≤ (S.size : Int) := by omega
    have HT := hide ht
    have HD := hide hd
    have CI := hide (fun w => isname_any ⟨(l.take k).toArray⟩ w (by rw [size_m, List.length_take]; have := HL.out; omega))
    simp only [mk_l] at CI
    have CC := hide (fun w => clone_any ⟨(l.take k).toArray⟩ w (by rw [size_m, List.length_take]; have := HL.out; omega))
    clear key ht hd
    by_cases hlt : k < S.size
    · have hlt' : (k : Int) < (S.size : Int) := by omega
      have C1 := hide (show ∀ w, _ from fun w => CN.out S[k].toNat w)
      cases hdd : nmN S[k].toNat
      · have hr := HRR.out
        obtain ⟨e1, e2⟩ := KEY.out (fun b hb => by
          have := HG.out k hlt
          rw [hb] at this
          injection this with this
          rw [this]; exact hdd)
        unfold nm at hr
        rw [e1, e2] at hr
        rw [hdd] at C1
        cases hi : isN (l.take k)
        · rw [hi, if_neg (by simp)] at hr
          subst hr
          rw [hi] at CI
          clear hdd e1 e2 hi CC CN
          go_wp2_with (first | (go_at_call 80; refine (C1.out _).mono ?_; rintro e w1 ⟨rfl, rfl⟩) | (rw [HT.out]; go_at_call 66; refine (CI.out _).mono ?_; rintro e w1 ⟨rfl, rfl⟩) | (go_at_call 57; refine (must_f _).mono ?_; rintro e w1 ⟨rfl, rfl⟩))
          exact ⟨rfl, rfl, But.refl _ _⟩
        · rw [hi, if_pos rfl] at hr
          subst hr
          rw [hi] at CI
          clear hdd e1 e2 hi CN
          go_wp2_with (first | (go_at_call 80; refine (C1.out _).mono ?_; rintro e w1 ⟨rfl, rfl⟩) | (rw [HT.out]; go_at_call 66; refine (CI.out _).mono ?_; rintro e w1 ⟨rfl, rfl⟩) | (go_at_call 57; refine (must_t _).mono ?_; rintro e w1 ⟨rfl, rfl⟩) | (go_at_call 87; refine (CC.out _).mono ?_; rintro e w1 ⟨rfl, hb⟩))
          go_ret
          rw [HD.out] at hb
          exact ⟨rfl, (HR.out.set (l.drop k)).below hb, (But.setCell b _ 0 _).trans (But.of_below hb)⟩
      · have K := hide (show (l.take (k + 1)).all nmB = true by
          rw [List.take_add_one, HG.out k hlt, List.all_append, HK.out.2]
          simp [nmB, hdd])
        rw [hdd] at C1
        clear hdd CN CI CC HT HD KEY
        go_wp2_with (first | (go_at_call 80; refine (C1.out _).mono ?_; rintro e w1 ⟨rfl, rfl⟩))
        go_round
        case rel => exact ⟨k + 1, by go_num, hide ⟨by omega, K.out⟩⟩
        case measure => simp [RowKit.intOf]; omega
    · have hlt' : ¬ (k : Int) < (S.size : Int) := by omega
      have hr := HRR.out
      obtain ⟨e1, e2⟩ := KEY.out (fun b hb => by
        have := (List.getElem?_eq_some_iff.1 hb).1
        have := HSZ.out
        omega)
      unfold nm at hr
      rw [e1, e2] at hr
      cases hi : isN (l.take k)
      · rw [hi, if_neg (by simp)] at hr
        subst hr
        rw [hi] at CI
        clear e1 e2 hi CC CN
        go_wp2_with (first | (rw [HT.out]; go_at_call 66; refine (CI.out _).mono ?_; rintro e w1 ⟨rfl, rfl⟩) | (go_at_call 57; refine (must_f _).mono ?_; rintro e w1 ⟨rfl, rfl⟩))
        exact ⟨rfl, rfl, But.refl _ _⟩
      · rw [hi, if_pos rfl] at hr
        subst hr
        rw [hi] at CI
        clear e1 e2 hi CN
        go_wp2_with (first | (rw [HT.out]; go_at_call 66; refine (CI.out _).mono ?_; rintro e w1 ⟨rfl, rfl⟩) | (go_at_call 57; refine (must_t _).mono ?_; rintro e w1 ⟨rfl, rfl⟩) | (go_at_call 87; refine (CC.out _).mono ?_; rintro e w1 ⟨rfl, hb⟩))
        go_ret
        rw [HD.out] at hb
        exact ⟨rfl, (HR.out.set (l.drop k)).below hb, (But.setCell b _ 0 _).trans (But.of_below hb)⟩
theorem RA.otherR {w : World} {b c : Nat} {l : List UInt8} (h : RA w b l) (hne : b ≠ c) (j : Nat) (v : Value) : RA (w.setCell ⟨c, j, none⟩ v) b l := Blk.other h hne j v
theorem But.newR {b c : Nat} {w w' : World} (h : But b w w') (hc : w.heap.size ≤ c) (j : Nat) (v : Value) : But b w (w'.setCell ⟨c, j, none⟩ v) :=
  ⟨h.os, h.tape, h.output, by have := h.size; simpa [World.setCell] using this, fun k hk hn => by rw [Below.heap_setCell _ _ _ _ (show k ≠ c by omega)]; exact h.block k hk hn⟩
abbrev st5 (w : World) (c : Nat) (v0 v1 v2 v3 v4 : Value) : World := ((((w.setCell ⟨c, 0, none⟩ v0).setCell ⟨c, 1, none⟩ v1).setCell ⟨c, 2, none⟩ v2).setCell ⟨c, 3, none⟩ v3).setCell ⟨c, 4, none⟩ v4
theorem set5 {w : World} {c : Nat} {x0 x1 x2 x3 x4 : Value} {t : TypeId} (h : Blk w c #[x0, x1, x2, x3, x4] t) (v0 v1 v2 v3 v4 : Value) : Blk (st5 w c v0 v1 v2 v3 v4) c #[v0, v1, v2, v3, v4] t := by
  have := ((((h.set 0 v0).set 1 v1).set 2 v2).set 3 v3).set 4 v4
  simpa using this
theorem RA.other5 {w : World} {b c : Nat} {l : List UInt8} (h : RA w b l) (hbw : b ≠ c) (v0 v1 v2 v3 v4 : Value) : RA (st5 w c v0 v1 v2 v3 v4) b l := ((((h.otherR hbw 0 _).otherR hbw 1 _).otherR hbw 2 _).otherR hbw 3 _).otherR hbw 4 _
theorem But.new5 {b c : Nat} {w w' : World} (h : But b w w') (hc : w.heap.size ≤ c) (v0 v1 v2 v3 v4 : Value) : But b w (st5 w' c v0 v1 v2 v3 v4) := ((((h.newR hc 0 _).newR hc 1 _).newR hc 2 _).newR hc 3 _).newR hc 4 _
/- what stands behind </ -/
def clo (l : List UInt8) : Option (List UInt8 × List UInt8) := match nm l with
  | none => none
  | some (x, r) => if hp [62] (bk r) then some (x, tp [62] (bk r)) else none
theorem tp_len (p l : List UInt8) : (tp p l).length ≤ l.length := by
  unfold tp; split
  · rw [List.length_drop]; omega
  · exact Nat.le_refl _
abbrev tkv (k : Int) (x t : ByteArray) (vs : Value) (a : Int) : Value := .agg #[.int .i64 k, .string x, .string t, vs, .int .i64 a]
def ClR (b : Nat) (w : World) (R : Option (List UInt8 × List UInt8)) (e : Ending) (w' : World) : Prop := match R with
  | none => e = thrown ∧ But b w w'
  | some (x, r) => e = .returned (tkv 2 ⟨x.toArray⟩ ⟨#[]⟩ (.slice none 0 0) 0) ∧ RA w' b r ∧ But b w w'
abbrev zt : Array Value := #[.int .i64 0, .string ⟨#[]⟩, .string ⟨#[]⟩, .slice none 0 0, .int .i64 0]
set_option maxHeartbeats 1000000 in
theorem closing_any (b : Nat) (l : List UInt8) (w : World) (h : RA w b l) (hl : l.length ≤ 1048576) :
    Calls Tryd.prog 59 #[.pointer (some ⟨b, 0, none⟩)] w (ClR b w (clo l)) := by
  have hal : Below w.heap.size w (w.alloc (.cells zt 45)) := (Below.refl _ _).alloc (Nat.le_refl _) _
  have hlt := h.lt
  have z2 : Blk (w.alloc (.cells zt 45)) w.heap.size zt 45 := Blk.new _ _ _
  have CN := hide (name_any b l _ (h.below hal) hl)
  have HAL := hide hal
  have Z2 := hide z2
  unfold clo
  cases hn : nm l with
  | none =>
    rw [hn] at CN
    clear h hn hal z2
    go_enter Tryd.func59, Tryd.ntmps59
    go_wp2_with (first | (go_at_call 73; refine CN.out.mono ?_; rintro e w1 ⟨rfl, hb⟩))
    exact ⟨rfl, rfl, (But.of_below HAL.out).trans hb⟩
  | some p =>
    obtain ⟨x, r⟩ := p
    rw [hn] at CN
    have hrl := (nm_len hn).1
    have CB := hide (fun w2 (h2 : RA w2 b r) => blanks_any b r w2 h2 (by omega))
    have CT := hide (fun w2 (h2 : RA w2 b (bk r)) => take_any b (bk r) [62] w2 h2)
    have HLT := hide hlt
    obtain ⟨V, hV⟩ : ∃ V : ByteArray, (⟨x.toArray⟩ : ByteArray) = V := ⟨_, rfl⟩
    have hnm : ∀ e w', NmR b (w.alloc (.cells zt 45)) (some (x, r)) e w' → e = .returned (.string V) ∧ RA w' b r ∧ But b (w.alloc (.cells zt 45)) w' := fun e w' h => by rw [← hV]; exact h
    have HNM := hide hnm
    show Calls Tryd.prog _ _ _ (ClR b w (if hp [62] (bk r) then some (x, tp [62] (bk r)) else none))
    cases hh : hp [62] (bk r)
    · rw [if_neg (by simp)]
      rw [hh] at CT
      clear h hn hal z2 hh hnm
      go_enter Tryd.func59, Tryd.ntmps59
      go_wp2_with (first
        | (go_at_call 73; refine CN.out.mono ?_; intro e w1 hq; obtain ⟨rfl, h1, h2⟩ := HNM.out e w1 hq; have G1 := hide ((But.of_below HAL.out).trans h2); have R1 := hide h1; clear h1 h2 hq)
        | (go_at_call 74; refine (CB.out _ (R1.out.below ((Below.refl _ _).alloc (Nat.le_refl _) _))).mono ?_; rintro e w2 ⟨rfl, h3, h4⟩; have G2 := hide ((G1.out.trans (But.of_below ((Below.refl _ _).alloc (Nat.le_refl _) _))).trans h4); have R2 := hide h3; clear h3 h4)
        | (go_at_call 58; refine (CT.out _ R2.out).mono ?_; rintro e w3 ⟨rfl, rfl⟩; have G3 := hide (G2.out.trans (But.setCell b w2 0 (.string ⟨(tp [62] (bk r)).toArray⟩))))
        | (go_at_call 57; refine (must_f _).mono ?_; rintro e w4 ⟨rfl, rfl⟩))
      exact ⟨rfl, rfl, G3.out⟩
    · rw [if_pos rfl]
      rw [hh] at CT
      have hb1 : RA w b l := h
      clear h hn hal z2 hh hnm
      go_enter Tryd.func59, Tryd.ntmps59
      go_wp2_with (first
        | (go_at_call 73; refine CN.out.mono ?_; intro e w1 hq; obtain ⟨rfl, h1, h2⟩ := HNM.out e w1 hq; have G1 := hide ((But.of_below HAL.out).trans h2); have R1 := hide h1; have ZZ := hide (Z2.out.but h2 (by have := HLT.out; omega)); have Z3 := hide (Blk.new w1 #[.int .i64 2, .string V, .string ⟨#[]⟩, .slice none 0 0, .int .i64 0] 45); have L1 := hide (show w.heap.size < w1.heap.size by have := h2.size; simp at this; omega); clear h1 h2 hq)
        | (go_at_call 74; refine (CB.out _ (R1.out.below ((Below.refl _ _).alloc (Nat.le_refl _) _))).mono ?_; rintro e w2 ⟨rfl, h3, h4⟩; have G2 := hide ((G1.out.trans (But.of_below ((Below.refl _ _).alloc (Nat.le_refl _) _))).trans h4); have R2 := hide h3; have Z4 := hide (Z3.out.but h4 (by have := R1.out.lt; omega)); have ZZ2 := hide ((ZZ.out.below ((Below.refl _ _).alloc (Nat.le_refl _) _)).but h4 (by have := HLT.out; omega)); clear h3 h4)
        | (go_at_call 58; refine (CT.out _ R2.out).mono ?_; rintro e w3 ⟨rfl, hw3⟩; have G3 := hide (G2.out.trans (But.setCell b w2 0 (.string ⟨(tp [62] (bk r)).toArray⟩))); have R3 := hide (R2.out.set (tp [62] (bk r))); have Z5 := hide (Z4.out.other (b' := b) (by have := R1.out.lt; omega) 0 (.string ⟨(tp [62] (bk r)).toArray⟩)); have ZZ3 := hide (ZZ2.out.other (b' := b) (by have := HLT.out; omega) 0 (.string ⟨(tp [62] (bk r)).toArray⟩)); rw [← hw3] at G3 R3 Z5 ZZ3; clear hw3; have d0 := Z5.out.cell 0; have d1 := Z5.out.cell 1; have d2 := Z5.out.cell 2; have d3 := Z5.out.cell 3; have d4 := Z5.out.cell 4; simp at d0 d1 d2 d3 d4; have r0 := ZZ3.out.cell 0; have r1 := ZZ3.out.cell 1; have r2 := ZZ3.out.cell 2; have r3 := ZZ3.out.cell 3; have r4 := ZZ3.out.cell 4; simp at r0 r1 r2 r3 r4; have q0 := ZZ3.out.frozen 0; have q1 := ZZ3.out.frozen 1; have q2 := ZZ3.out.frozen 2; have q3 := ZZ3.out.frozen 3; have q4 := ZZ3.out.frozen 4)
        | (go_at_call 57; refine (must_t _).mono ?_; rintro e w4 ⟨rfl, rfl⟩))
      have hbw : b ≠ w.heap.size := by have := HLT.out; omega
      have F1 := hide (set5 ZZ3.out (.int .i64 2) (.string V) (.string ⟨#[]⟩) (.slice none 0 0) (.int .i64 0))
      have F2 := hide (R3.out.other5 hbw (.int .i64 2) (.string V) (.string ⟨#[]⟩) (.slice none 0 0) (.int .i64 0))
      have F3 := hide (G3.out.new5 (Nat.le_refl _) (.int .i64 2) (.string V) (.string ⟨#[]⟩) (.slice none 0 0) (.int .i64 0))
      unfold st5 at F1 F2 F3
      generalize (((((w4.setCell ⟨w.heap.size, 0, none⟩ (.int .i64 2)).setCell ⟨w.heap.size, 1, none⟩ (.string V)).setCell ⟨w.heap.size, 2, none⟩ (.string ⟨#[]⟩)).setCell ⟨w.heap.size, 3, none⟩ (.slice none 0 0)).setCell ⟨w.heap.size, 4, none⟩ (.int .i64 0)) = wf at F1 F2 F3 ⊢
      have g0 := F1.out.cell 0; have g1 := F1.out.cell 1; have g2 := F1.out.cell 2; have g3 := F1.out.cell 3; have g4 := F1.out.cell 4
      simp at g0 g1 g2 g3 g4
      exact bodyPost_ret (v := tkv 2 V ⟨#[]⟩ (.slice none 0 0) 0) (by simp [results, Tryd.results59, go_sem, g0, g1, g2, g3, g4]) rfl ⟨by rw [hV], F2.out, F3.out⟩
end Go.Proofs.YtpmdekhjodhdmaaDoor.K17
