/-
  Joined: K17A, K17O, K17O2.
-/
import Derived.Lib.IndexBytes
import Derived.Lib.IndexLaws
import Derived.Lib.IndexMore
import Derived.Lib.LaidU8T
import Derived.MakeChecks
import Derived.Test.YtpmdekhjodhdmaaDoorRows
import Derived.Test.YtpmdekhjodhdmaaDoorR10
import Derived.Test.YtpmdekhjodhdmaaDoorR12
namespace Go.Proofs.YtpmdekhjodhdmaaDoor.K17
open Go.RowKit Go.Proofs.YtpmdekhjodhdmaaDoor
open Go.Lib
set_option linter.unusedVariables false
set_option linter.unusedSimpArgs false
set_option maxRecDepth 8000
theorem clone_any (s : ByteArray) (w : World) (hs : s.size ≤ 281474976710656) : Calls Tryd.prog 87 #[.string s] w fun e w' => e = .returned (.string s) ∧ Below w.heap.size w w' := by
  have CC := hide (Any.stringslite_Clone laysM316 s w hs)
  go_enter Tryd.func87, Tryd.ntmps87
  go_wp2_with (first | (go_at_call 91; refine CC.out.mono ?_; rintro e w1 ⟨rfl, hb⟩))
  go_ret
  exact ⟨rfl, hb⟩
def nm (l : List UInt8) : Option (List UInt8 × List UInt8) := if isN (l.takeWhile nmB) then some (l.takeWhile nmB, l.dropWhile nmB) else none
theorem nm_len {l x r : List UInt8} (h : nm l = some (x, r)) : r.length < l.length ∧ l = x ++ r := by
  unfold nm at h
  split at h
  · rename_i hn
    simp only [Option.some.injEq, Prod.mk.injEq] at h
    obtain ⟨rfl, rfl⟩ := h
    have e := List.takeWhile_append_dropWhile (p := nmB) (l := l)
    have hl := congrArg List.length e
    rw [List.length_append] at hl
    have : (l.takeWhile nmB).length ≠ 0 := by
      intro h0
      rw [List.length_eq_zero_iff.1 h0] at hn
      exact absurd hn (by decide)
    exact ⟨by omega, e.symm⟩
  · simp at h
theorem tw_take : ∀ (l : List UInt8) (k : Nat), (l.take k).all nmB = true → (∀ b, l[k]? = some b → nmB b = false) → l.takeWhile nmB = l.take k ∧ l.dropWhile nmB = l.drop k
  | [], k, _, _ => by simp
  | b :: l, 0, _, h => by
    have h0 := h b rfl
    rw [List.takeWhile_cons, List.dropWhile_cons, if_neg (by rw [h0]; simp), if_neg (by rw [h0]; simp)]
    exact ⟨rfl, rfl⟩
  | b :: l, k + 1, h, h2 => by
    rw [List.take_succ_cons, List.all_cons, Bool.and_eq_true] at h
    obtain ⟨i1, i2⟩ := tw_take l k h.2 (fun c hc => h2 c (by simpa using hc))
    rw [List.takeWhile_cons, List.dropWhile_cons, if_pos h.1, if_pos h.1, i1, i2]
    exact ⟨rfl, rfl⟩
def NmR (b : Nat) (w : World) (R : Option (List UInt8 × List UInt8)) (e : Ending) (w' : World) : Prop := match R with
  | none => e = thrown ∧ But b w w'
  | some (x, r) => e = .returned (.string ⟨x.toArray⟩) ∧ RA w' b r ∧ But b w w'
theorem getm (l : List UInt8) (k : Nat) (h : k < (⟨l.toArray⟩ : ByteArray).size) : l[k]? = some ((⟨l.toArray⟩ : ByteArray)[k]) := by
  have := get_b ⟨l.toArray⟩ k h
  exact this
set_option maxHeartbeats 1000000 in
theorem name_any (b : Nat) (l : List UInt8) (w : World) (h : RA w b l) (hl : l.length ≤ 1048576) :
    Calls Tryd.prog 73 #[.pointer (some ⟨b, 0, none⟩)] w (NmR b w (nm l)) := by
  have c0 := h.c0
  have f0 := h.f0
  have HR := hide h
  have CN := hide ofname_any
  obtain ⟨S, hS⟩ : ∃ S : ByteArray, (⟨l.toArray⟩ : ByteArray) = S := ⟨_, rfl⟩
  have hsz : S.size = l.length := by rw [← hS]; exact size_m l
  have hgt : ∀ k (hk : k < S.size), l[k]? = some S[k] := fun k hk => by subst hS; exact getm l k hk
  have HG := hide hgt
  have HSS := hide hS
  have HSZ := hide hsz
  have HL := hide hl
  rw [hS] at c0
  have hs' : (S.size : Int) ≤ 1048576 := by omega
  obtain ⟨R, hR⟩ : ∃ R, nm l = R := ⟨_, rfl⟩
  rw [hR]
  have HRR := hide hR
  clear h hS hgt hsz hl hR
  go_enter Tryd.func73, Tryd.ntmps73
  go_wp2
  go_loop [3] (fun vn => ∃ k : Nat, vn = .int .i64 k ∧ Hid (k ≤ S.size ∧ (l.take k).all nmB = true)) (fun vn => S.size - (RowKit.intOf vn).toNat)
  case atStart => exact ⟨0, rfl, hide ⟨by omega, by simp⟩⟩
  case round =>
    obtain ⟨k, rfl, HK⟩ := hrel
    have hk := HK.out.1
    have hk0 : (0 : Int) ≤ (k : Int) := by omega
    /- behind the loop: both ways out -/
    have key : (∀ b, l[k]? = some b → nmB b = false) → l.takeWhile nmB = l.take k ∧ l.dropWhile nmB = l.drop k := fun h2 => tw_take l k HK.out.2 h2
    have KEY := hide key
    have ht : S.extract 0 k = ⟨(l.take k).toArray⟩ := by
      rw [str_eq, Lib.extract_data, ← HSS.out, mk_l, mk_l]; simp
    have hd : S.extract k S.size = ⟨(l.drop k).toArray⟩ := by
      rw [str_eq, Lib.extract_data, HSZ.out, ← HSS.out, mk_l, mk_l]
      rw [List.take_of_length_le]
      rw [List.length_drop]; exact Nat.le_refl _
    have hkz : (k : Int) ≤ (S.size : Int) := by omega
    have HT := hide ht
    have HD := hide hd
    have CI := hide (fun w => isname_any ⟨(l.take k).toArray⟩ w (by rw [size_m, List.length_take]; have := HL.out; omega))
    simp only [mk_l] at CI
    have CC := hide (fun w => clone_any ⟨(l.take k).toArray⟩ w (by rw [size_m, List.length_take]; have := HL.out; omega))
    clear key ht hd
    by_cases hlt : k < S.size
    · have hlt' : (k : Int) < (S.size : Int) := by omega
      have C1 := hide (show ∀ w, _ from fun w => CN.out S[k].toNat w)
      cases hdd : nmN S[k].toNat
      · have hr := HRR.out
        obtain ⟨e1, e2⟩ := KEY.out (fun b hb => by
          have := HG.out k hlt
          rw [hb] at this
          injection this with this
          rw [this]; exact hdd)
        unfold nm at hr
        rw [e1, e2] at hr
        rw [hdd] at C1
        cases hi : isN (l.take k)
        · rw [hi, if_neg (by simp)] at hr
          subst hr
          rw [hi] at CI
          clear hdd e1 e2 hi CC CN
          go_wp2_with (first | (go_at_call 80; refine (C1.out _).mono ?_; rintro e w1 ⟨rfl, rfl⟩) | (rw [HT.out]; go_at_call 66; refine (CI.out _).mono ?_; rintro e w1 ⟨rfl, rfl⟩) | (go_at_call 57; refine (must_f _).mono ?_; rintro e w1 ⟨rfl, rfl⟩))
          exact ⟨rfl, rfl, But.refl _ _⟩
        · rw [hi, if_pos rfl] at hr
          subst hr
          rw [hi] at CI
          clear hdd e1 e2 hi CN
          go_wp2_with (first | (go_at_call 80; refine (C1.out _).mono ?_; rintro e w1 ⟨rfl, rfl⟩) | (rw [HT.out]; go_at_call 66; refine (CI.out _).mono ?_; rintro e w1 ⟨rfl, rfl⟩) | (go_at_call 57; refine (must_t _).mono ?_; rintro e w1 ⟨rfl, rfl⟩) | (go_at_call 87; refine (CC.out _).mono ?_; rintro e w1 ⟨rfl, hb⟩))
          go_ret
          rw [HD.out] at hb
          exact ⟨rfl, (HR.out.set (l.drop k)).below hb, (But.setCell b _ 0 _).trans (But.of_below hb)⟩
      · have K := hide (show (l.take (k + 1)).all nmB = true by
          rw [List.take_add_one, HG.out k hlt, List.all_append, HK.out.2]
          simp [nmB, hdd])
        rw [hdd] at C1
        clear hdd CN CI CC HT HD KEY
        go_wp2_with (first | (go_at_call 80; refine (C1.out _).mono ?_; rintro e w1 ⟨rfl, rfl⟩))
        go_round
        case rel => exact ⟨k + 1, by go_num, hide ⟨by omega, K.out⟩⟩
        case measure => simp [RowKit.intOf]; omega
    · have hlt' : ¬ (k : Int) < (S.size : Int) := by omega
      have hr := HRR.out
      obtain ⟨e1, e2⟩ := KEY.out (fun b hb => by
        have := (List.getElem?_eq_some_iff.1 hb).1
        have := HSZ.out
        omega)
      unfold nm at hr
      rw [e1, e2] at hr
      cases hi : isN (l.take k)
      · rw [hi, if_neg (by simp)] at hr
        subst hr
        rw [hi] at CI
        clear e1 e2 hi CC CN
        go_wp2_with (first | (rw [HT.out]; go_at_call 66; refine (CI.out _).mono ?_; rintro e w1 ⟨rfl, rfl⟩) | (go_at_call 57; refine (must_f _).mono ?_; rintro e w1 ⟨rfl, rfl⟩))
        exact ⟨rfl, rfl, But.refl _ _⟩
      · rw [hi, if_pos rfl] at hr
        subst hr
        rw [hi] at CI
        clear e1 e2 hi CN
        go_wp2_with (first | (rw [HT.out]; go_at_call 66; refine (CI.out _).mono ?_; rintro e w1 ⟨rfl, rfl⟩) | (go_at_call 57; refine (must_t _).mono ?_; rintro e w1 ⟨rfl, rfl⟩) | (go_at_call 87; refine (CC.out _).mono ?_; rintro e w1 ⟨rfl, hb⟩))
        go_ret
        rw [HD.out] at hb
        exact ⟨rfl, (HR.out.set (l.drop k)).below hb, (But.setCell b _ 0 _).trans (But.of_below hb)⟩
theorem RA.otherR {w : World} {b c : Nat} {l : List UInt8} (h : RA w b l) (hne : b ≠ c) (j : Nat) (v : Value) : RA (w.setCell ⟨c, j, none⟩ v) b l := Blk.other h hne j v
theorem But.newR {b c : Nat} {w w' : World} (h : But b w w') (hc : w.heap.size ≤ c) (j : Nat) (v : Value) : But b w (w'.setCell ⟨c, j, none⟩ v) :=
  ⟨h.os, h.tape, h.output, by have := h.size; simpa [World.setCell] using this, fun k hk hn => by rw [Below.heap_setCell _ _ _ _ (show k ≠ c by omega)]; exact h.block k hk hn⟩
abbrev st5 (w : World) (c : Nat) (v0 v1 v2 v3 v4 : Value) : World := ((((w.setCell ⟨c, 0, none⟩ v0).setCell ⟨c, 1, none⟩ v1).setCell ⟨c, 2, none⟩ v2).setCell ⟨c, 3, none⟩ v3).setCell ⟨c, 4, none⟩ v4
theorem set5 {w : World} {c : Nat} {x0 x1 x2 x3 x4 : Value} {t : TypeId} (h : Blk w c #[x0, x1, x2, x3, x4] t) (v0 v1 v2 v3 v4 : Value) : Blk (st5 w c v0 v1 v2 v3 v4) c #[v0, v1, v2, v3, v4] t := by
  have := ((((h.set 0 v0).set 1 v1).set 2 v2).set 3 v3).set 4 v4
  simpa using this
theorem RA.other5 {w : World} {b c : Nat} {l : List UInt8} (h : RA w b l) (hbw : b ≠ c) (v0 v1 v2 v3 v4 : Value) : RA (st5 w c v0 v1 v2 v3 v4) b l := ((((h.otherR hbw 0 _).otherR hbw 1 _).otherR hbw 2 _).otherR hbw 3 _).otherR hbw 4 _
theorem But.new5 {b c : Nat} {w w' : World} (h : But b w w') (hc : w.heap.size ≤ c) (v0 v1 v2 v3 v4 : Value) : But b w (st5 w' c v0 v1 v2 v3 v4) := ((((h.newR hc 0 _).newR hc 1 _).newR hc 2 _).newR hc 3 _).newR hc 4 _
def clo (l : List UInt8) : Option (List UInt8 × List UInt8) := match nm l with
  | none => none
  | some (x, r) => if hp [62] (bk r) then some (x, tp [62] (bk r)) else none
theorem tp_len (p l : List UInt8) : (tp p l).length ≤ l.length := by
  unfold tp; split
  · rw [List.length_drop]; omega
  · exact Nat.le_refl _
abbrev tkv (k : Int) (x t : ByteArray) (vs : Value) (a : Int) : Value := .agg #[.int .i64 k, .string x, .string t, vs, .int .i64 a]
def ClR (b : Nat) (w : World) (R : Option (List UInt8 × List UInt8)) (e : Ending) (w' : World) : Prop := match R with
  | none => e = thrown ∧ But b w w'
  | some (x, r) => e = .returned (tkv 2 ⟨x.toArray⟩ ⟨#[]⟩ (.slice none 0 0) 0) ∧ RA w' b r ∧ But b w w'
abbrev zt : Array Value := #[.int .i64 0, .string ⟨#[]⟩, .string ⟨#[]⟩, .slice none 0 0, .int .i64 0]
set_option maxHeartbeats 1000000 in
theorem closing_any (b : Nat) (l : List UInt8) (w : World) (h : RA w b l) (hl : l.length ≤ 1048576) :
    Calls Tryd.prog 59 #[.pointer (some ⟨b, 0, none⟩)] w (ClR b w (clo l)) := by
  have hal : Below w.heap.size w (w.alloc (.cells zt 45)) := (Below.refl _ _).alloc (Nat.le_refl _) _
  have hlt := h.lt
  have z2 : Blk (w.alloc (.cells zt 45)) w.heap.size zt 45 := Blk.new _ _ _
  have CN := hide (name_any b l _ (h.below hal) hl)
  have HAL := hide hal
  have Z2 := hide z2
  unfold clo
  cases hn : nm l with
  | none =>
    rw [hn] at CN
    clear h hn hal z2
    go_enter Tryd.func59, Tryd.ntmps59
    go_wp2_with (first | (go_at_call 73; refine CN.out.mono ?_; rintro e w1 ⟨rfl, hb⟩))
    exact ⟨rfl, rfl, (But.of_below HAL.out).trans hb⟩
  | some p =>
    obtain ⟨x, r⟩ := p
    rw [hn] at CN
    have hrl := (nm_len hn).1
    have CB := hide (fun w2 (h2 : RA w2 b r) => blanks_any b r w2 h2 (by omega))
    have CT := hide (fun w2 (h2 : RA w2 b (bk r)) => take_any b (bk r) [62] w2 h2)
    have HLT := hide hlt
    obtain ⟨V, hV⟩ : ∃ V : ByteArray, (⟨x.toArray⟩ : ByteArray) = V := ⟨_, rfl⟩
    have hnm : ∀ e w', NmR b (w.alloc (.cells zt 45)) (some (x, r)) e w' → e = .returned (.string V) ∧ RA w' b r ∧ But b (w.alloc (.cells zt 45)) w' := fun e w' h => by rw [← hV]; exact h
    have HNM := hide hnm
    show Calls Tryd.prog _ _ _ (ClR b w (if hp [62] (bk r) then some (x, tp [62] (bk r)) else none))
    cases hh : hp [62] (bk r)
    · rw [if_neg (by simp)]
      rw [hh] at CT
      clear h hn hal z2 hh hnm
      go_enter Tryd.func59, Tryd.ntmps59
      go_wp2_with (first
        | (go_at_call 73; refine CN.out.mono ?_; intro e w1 hq; obtain ⟨rfl, h1, h2⟩ := HNM.out e w1 hq; have G1 := hide ((But.of_below HAL.out).trans h2); have R1 := hide h1; clear h1 h2 hq)
        | (go_at_call 74; refine (CB.out _ (R1.out.below ((Below.refl _ _).alloc (Nat.le_refl _) _))).mono ?_; rintro e w2 ⟨rfl, h3, h4⟩; have G2 := hide ((G1.out.trans (But.of_below ((Below.refl _ _).alloc (Nat.le_refl _) _))).trans h4); have R2 := hide h3; clear h3 h4)
        | (go_at_call 58; refine (CT.out _ R2.out).mono ?_; rintro e w3 ⟨rfl, rfl⟩; have G3 := hide (G2.out.trans (But.setCell b w2 0 (.string ⟨(tp [62] (bk r)).toArray⟩))))
        | (go_at_call 57; refine (must_f _).mono ?_; rintro e w4 ⟨rfl, rfl⟩))
      exact ⟨rfl, rfl, G3.out⟩
    · rw [if_pos rfl]
      rw [hh] at CT
      have hb1 : RA w b l := h
      clear h hn hal z2 hh hnm
      go_enter Tryd.func59, Tryd.ntmps59
      go_wp2_with (first
        | (go_at_call 73; refine CN.out.mono ?_; intro e w1 hq; obtain ⟨rfl, h1, h2⟩ := HNM.out e w1 hq; have G1 := hide ((But.of_below HAL.out).trans h2); have R1 := hide h1; have ZZ := hide (Z2.out.but h2 (by have := HLT.out; omega)); have Z3 := hide (Blk.new w1 #[.int .i64 2, .string V, .string ⟨#[]⟩, .slice none 0 0, .int .i64 0] 45); have L1 := hide (show w.heap.size < w1.heap.size by have := h2.size; simp at this; omega); clear h1 h2 hq)
        | (go_at_call 74; refine (CB.out _ (R1.out.below ((Below.refl _ _).alloc (Nat.le_refl _) _))).mono ?_; rintro e w2 ⟨rfl, h3, h4⟩; have G2 := hide ((G1.out.trans (But.of_below ((Below.refl _ _).alloc (Nat.le_refl _) _))).trans h4); have R2 := hide h3; have Z4 := hide (Z3.out.but h4 (by have := R1.out.lt; omega)); have ZZ2 := hide ((ZZ.out.below ((Below.refl _ _).alloc (Nat.le_refl _) _)).but h4 (by have := HLT.out; omega)); clear h3 h4)
        | (go_at_call 58; refine (CT.out _ R2.out).mono ?_; rintro e w3 ⟨rfl, hw3⟩; have G3 := hide (G2.out.trans (But.setCell b w2 0 (.string ⟨(tp [62] (bk r)).toArray⟩))); have R3 := hide (R2.out.set (tp [62] (bk r))); have Z5 := hide (Z4.out.other (b' := b) (by have := R1.out.lt; omega) 0 (.string ⟨(tp [62] (bk r)).toArray⟩)); have ZZ3 := hide (ZZ2.out.other (b' := b) (by have := HLT.out; omega) 0 (.string ⟨(tp [62] (bk r)).toArray⟩)); rw [← hw3] at G3 R3 Z5 ZZ3; clear hw3; have d0 := Z5.out.cell 0; have d1 := Z5.out.cell 1; have d2 := Z5.out.cell 2; have d3 := Z5.out.cell 3; have d4 := Z5.out.cell 4; simp at d0 d1 d2 d3 d4; have r0 := ZZ3.out.cell 0; have r1 := ZZ3.out.cell 1; have r2 := ZZ3.out.cell 2; have r3 := ZZ3.out.cell 3; have r4 := ZZ3.out.cell 4; simp at r0 r1 r2 r3 r4; have q0 := ZZ3.out.frozen 0; have q1 := ZZ3.out.frozen 1; have q2 := ZZ3.out.frozen 2; have q3 := ZZ3.out.frozen 3; have q4 := ZZ3.out.frozen 4)
        | (go_at_call 57; refine (must_t _).mono ?_; rintro e w4 ⟨rfl, rfl⟩))
      have hbw : b ≠ w.heap.size := by have := HLT.out; omega
      have F1 := hide (set5 ZZ3.out (.int .i64 2) (.string V) (.string ⟨#[]⟩) (.slice none 0 0) (.int .i64 0))
      have F2 := hide (R3.out.other5 hbw (.int .i64 2) (.string V) (.string ⟨#[]⟩) (.slice none 0 0) (.int .i64 0))
      have F3 := hide (G3.out.new5 (Nat.le_refl _) (.int .i64 2) (.string V) (.string ⟨#[]⟩) (.slice none 0 0) (.int .i64 0))
      unfold st5 at F1 F2 F3
      generalize (((((w4.setCell ⟨w.heap.size, 0, none⟩ (.int .i64 2)).setCell ⟨w.heap.size, 1, none⟩ (.string V)).setCell ⟨w.heap.size, 2, none⟩ (.string ⟨#[]⟩)).setCell ⟨w.heap.size, 3, none⟩ (.slice none 0 0)).setCell ⟨w.heap.size, 4, none⟩ (.int .i64 0)) = wf at F1 F2 F3 ⊢
      have g0 := F1.out.cell 0; have g1 := F1.out.cell 1; have g2 := F1.out.cell 2; have g3 := F1.out.cell 3; have g4 := F1.out.cell 4
      simp at g0 g1 g2 g3 g4
      exact bodyPost_ret (v := tkv 2 V ⟨#[]⟩ (.slice none 0 0) 0) (by simp [results, Tryd.results59, go_sem, g0, g1, g2, g3, g4]) rfl ⟨by rw [hV], F2.out, F3.out⟩
theorem idx_upto (c : UInt8) : ∀ l : List UInt8, Lib.indexByte l c = if c ∈ l then ((upto c l).length : Int) else -1
  | [] => by simp [Lib.indexByte]
  | b :: l => by
    unfold Lib.indexByte
    by_cases hb : b = c
    · subst hb
      rw [if_pos (by simp), if_pos (by simp)]
      simp [upto]
    · have hne : (b == c) = false := by rw [beq_eq_false_iff_ne]; exact hb
      have hu : upto c (b :: l) = b :: upto c l := by unfold upto; rw [List.takeWhile_cons, if_pos (by simpa using hb)]
      rw [hne, if_neg (by simp), idx_upto c l, hu]
      by_cases hc : c ∈ l
      · rw [if_pos hc, if_neg (by simp <;> omega), if_pos (by simp [hc])]
        simp
      · rw [if_neg hc, if_pos (by simp), if_neg (by simp [hc, Ne.symm hb])]
theorem upto_take (c : UInt8) (l : List UInt8) : l.take (upto c l).length = upto c l := by
  have := List.takeWhile_append_dropWhile (p := (· != c)) (l := l)
  have h2 : l = upto c l ++ l.dropWhile (· != c) := this.symm
  calc l.take (upto c l).length = (upto c l ++ l.dropWhile (· != c)).take (upto c l).length := by rw [← h2]
    _ = upto c l := List.take_left' rfl
theorem upto_get {c : UInt8} {l : List UInt8} (h : c ∈ l) : l[(upto c l).length]? = some c := by
  have := idx_upto c l
  rw [if_pos h] at this
  exact (indexByte_some this).1
theorem upto_lt {c : UInt8} {l : List UInt8} (h : c ∈ l) : (upto c l).length < l.length := (List.getElem?_eq_some_iff.1 (upto_get h)).1
theorem cut_one (c : UInt8) (l : List UInt8) : Lib.cut l [c] = if c ∈ l then (upto c l, l.drop ((upto c l).length + 1), true) else (l, [], false) := by
  unfold Lib.cut
  rw [index_one, idx_upto]
  by_cases h : c ∈ l
  · rw [if_pos h, if_pos h, if_pos (by omega)]
    rw [show ((upto c l).length : Int).toNat = (upto c l).length by omega, upto_take]
    rfl
  · rw [if_neg h, if_neg h, if_neg (by decide)]
theorem vt_upto {c : UInt8} {l : List UInt8} (hc : c.toNat < 128) (h : Vt l) (hm : c ∈ l) : Vt (upto c l) ∧ Vt (l.drop ((upto c l).length + 1)) := by
  have hg := upto_get hm
  obtain ⟨h1, h2⟩ := h.cut (upto c l).length (fun b hb => by rw [hg] at hb; injection hb with hb; rw [← hb]; exact hc)
  rw [upto_take] at h1
  refine ⟨h1, ?_⟩
  have hlt := upto_lt hm
  rw [List.drop_eq_getElem_cons hlt] at h2
  have he : l[(upto c l).length] = c := by rw [List.getElem?_eq_getElem hlt] at hg; injection hg
  rw [he] at h2
  exact (h2.low hc).1
theorem vt_dropW {p : UInt8 → Bool} (hp : ∀ b, p b = true → b.toNat < 128) : ∀ {l : List UInt8}, Vt l → Vt (l.dropWhile p)
  | [], h => by simpa using h
  | b :: l, h => by
    rw [List.dropWhile_cons]
    split
    · rename_i hb; exact vt_dropW hp (h.low (hp b hb)).1
    · exact h
theorem vt_bk {l : List UInt8} (h : Vt l) : Vt (bk l) := vt_dropW (fun b hb => by
  unfold blB at hb
  simp only [List.contains_cons, List.contains_nil, Bool.or_false, Bool.or_eq_true, beq_iff_eq] at hb
  rcases hb with rfl | rfl | rfl | rfl <;> decide) h
theorem vt_nmB {b : UInt8} (hb : nmB b = true) : b.toNat < 128 := by
  unfold nmB nmN smN at hb
  simp only [Bool.or_eq_true, decide_eq_true_eq, beq_iff_eq] at hb
  omega
theorem vt_nm {l x r : List UInt8} (h : Vt l) (hn : nm l = some (x, r)) : Vt r := by
  unfold nm at hn
  split at hn
  · simp only [Option.some.injEq, Prod.mk.injEq] at hn
    rw [← hn.2]
    exact vt_dropW (fun b hb => vt_nmB hb) h
  · simp at hn
theorem hp_cons {c : UInt8} {p l : List UInt8} (h : hp (c :: p) l = true) : ∃ r, l = c :: r ∧ hp p r = true := by
  unfold hp Lib.hasPrefix at h
  cases l with
  | nil => simp [List.isPrefixOf] at h
  | cons b r =>
    simp only [List.isPrefixOf, Bool.and_eq_true, beq_iff_eq] at h
    exact ⟨r, by rw [h.1], h.2⟩
theorem tp_one {c : UInt8} {l : List UInt8} (h : hp [c] l = true) : l = c :: tp [c] l := by
  obtain ⟨r, rfl, _⟩ := hp_cons h
  unfold tp
  rw [if_pos h]
  rfl
theorem vt_tp1 {c : UInt8} {l : List UInt8} (hc : c.toNat < 128) (h : Vt l) (hh : hp [c] l = true) : Vt (tp [c] l) := by
  rw [tp_one hh] at h
  exact (h.low hc).1
theorem tp_f {p l : List UInt8} (h : hp p l = false) : tp p l = l := by unfold tp; rw [h]; rfl
def va (l : List UInt8) : Option (List UInt8 × List UInt8) :=
  if 34 ∈ l then (if 60 ∈ upto 34 l then none else match pl (upto 34 l) with
    | .ok t => some (t, l.drop ((upto 34 l).length + 1))
    | .error _ => none) else none
def att (l : List UInt8) : Option (List UInt8 × List UInt8 × List UInt8) := match nm l with
  | none => none
  | some (x, r) => if hp [61] (bk r) then (if hp [34] (bk (tp [61] (bk r))) then (match va (tp [34] (bk (tp [61] (bk r)))) with
      | none => none
      | some (t, q) => some (x, t, q)) else none) else none
def MX (w : World) : Prop := ∃ m, w.cell? ⟨lays145_ren.g 1, 0, none⟩ = some (.int .i64 m)
theorem MX.below {w w' : World} (h : MX w) (hb : Below w.heap.size w w') : MX w' := by
  obtain ⟨m, hm⟩ := h
  exact ⟨m, by rw [hb.cell (p := ⟨lays145_ren.g 1, 0, none⟩) (cell_lt' hm)]; exact hm⟩
theorem MX.but {b : Nat} {w w' : World} (h : MX w) (hb : But b w w') (hne : lays145_ren.g 1 ≠ b) : MX w' := by
  obtain ⟨m, hm⟩ := h
  refine ⟨m, ?_⟩
  rw [← hm]
  unfold World.cell?
  rw [hb.block _ (cell_lt' hm) hne]
structure AS (b : Nat) (w : World) (a : Nat) (x : ByteArray) (cur : World) (l : List UInt8) : Prop where
  ra : RA cur b l
  bu : But b w cur
  z : Blk cur w.heap.size #[.string ⟨#[]⟩, .string ⟨#[]⟩] 47
  ab : Blk cur a #[.string x, .string ⟨#[]⟩] 47
  ne : w.heap.size < a
  mx : MX cur
theorem AS.but {b : Nat} {w : World} {a : Nat} {x : ByteArray} {cur cur' : World} {l l' : List UInt8} (h : AS b w a x cur l) (hlt : b < w.heap.size) (hb : But b cur cur') (hr : RA cur' b l') (hg : lays145_ren.g 1 ≠ b) : AS b w a x cur' l' :=
  ⟨hr, h.bu.trans hb, h.z.but hb (by omega), h.ab.but hb (by have := h.ne; omega), h.ne, h.mx.but hb hg⟩
theorem AS.below {b : Nat} {w : World} {a : Nat} {x : ByteArray} {cur cur' : World} {l : List UInt8} (h : AS b w a x cur l) (hb : Below cur.heap.size cur cur') : AS b w a x cur' l :=
  ⟨h.ra.below hb, h.bu.trans (But.of_below hb), h.z.below hb, h.ab.below hb, h.ne, h.mx.below hb⟩
def AtR (b : Nat) (w : World) (R : Option (List UInt8 × List UInt8 × List UInt8)) (e : Ending) (w' : World) : Prop := match R with
  | none => e = thrown ∧ But b w w'
  | some (x, t, r) => e = .returned (.agg #[.string ⟨x.toArray⟩, .string ⟨t.toArray⟩]) ∧ RA w' b r ∧ But b w w'
theorem take_as {b : Nat} {w : World} {a : Nat} {x : ByteArray} {cur : World} {l p : List UInt8} {t : Bool} (S : Hid (AS b w a x cur l)) (ht : hp p l = t) (hlt : b < w.heap.size) (hg : lays145_ren.g 1 ≠ b) :
    Calls Tryd.prog 58 #[.pointer (some ⟨b, 0, none⟩), .string ⟨p.toArray⟩] cur fun e w' => e = .returned (.bool t) ∧ AS b w a x w' (tp p l) :=
  (take_any b l p cur S.out.ra).mono fun e w' ⟨h1, h2⟩ => ⟨by rw [h1, ht], by rw [h2]; exact S.out.but hlt (But.setCell _ _ _ _) (S.out.ra.set _) hg⟩
theorem blanks_as {b : Nat} {w : World} {a : Nat} {x : ByteArray} {cur : World} {l : List UInt8} (S : Hid (AS b w a x cur l)) (hlt : b < w.heap.size) (hg : lays145_ren.g 1 ≠ b) (hl : l.length ≤ 1048576) :
    Calls Tryd.prog 74 #[.pointer (some ⟨b, 0, none⟩)] cur fun e w' => e = .returned (.bool (decide ((bk l).length < l.length))) ∧ AS b w a x w' (bk l) :=
  (blanks_any b l cur S.out.ra hl).mono fun e w' ⟨h1, h2, h3⟩ => ⟨h1, S.out.but hlt h3 h2 hg⟩
theorem name_as {b : Nat} {w : World} {l x r : List UInt8} (h : RA w b l) (hm : MX w) (hl : l.length ≤ 1048576) (hg : lays145_ren.g 1 ≠ b) (hn : nm l = some (x, r)) :
    Calls Tryd.prog 73 #[.pointer (some ⟨b, 0, none⟩)] (w.alloc (.cells #[.string ⟨#[]⟩, .string ⟨#[]⟩] 47)) fun e w' => e = .returned (.string ⟨x.toArray⟩) ∧ AS b w w'.heap.size ⟨x.toArray⟩ (w'.alloc (.cells #[.string ⟨x.toArray⟩, .string ⟨#[]⟩] 47)) r := by
  have hal : Below w.heap.size w (w.alloc (.cells #[.string ⟨#[]⟩, .string ⟨#[]⟩] 47)) := (Below.refl _ _).alloc (Nat.le_refl _) _
  have C := name_any b l _ (h.below hal) hl
  rw [hn] at C
  refine C.mono ?_
  rintro e w' ⟨h1, h2, h3⟩
  have hlt := h.lt
  have hz := h3.size
  simp at hz
  have hal2 : Below w'.heap.size w' (w'.alloc (.cells #[.string ⟨x.toArray⟩, .string ⟨#[]⟩] 47)) := (Below.refl _ _).alloc (Nat.le_refl _) _
  exact ⟨h1, h2.below hal2, ((But.of_below hal).trans h3).trans (But.of_below hal2), ((Blk.new w _ _).but h3 (by omega)).below hal2, Blk.new _ _ _, by omega, ((hm.below hal).but h3 hg).below hal2⟩
theorem name_no {b : Nat} {w : World} {l : List UInt8} (h : RA w b l) (hl : l.length ≤ 1048576) (hn : nm l = none) (o : Obj) :
    Calls Tryd.prog 73 #[.pointer (some ⟨b, 0, none⟩)] (w.alloc o) fun e w' => e = thrown ∧ But b w w' := by
  have hal : Below w.heap.size w (w.alloc o) := (Below.refl _ _).alloc (Nat.le_refl _) _
  have C := name_any b l _ (h.below hal) hl
  rw [hn] at C
  exact C.mono fun e w' ⟨h1, h2⟩ => ⟨h1, (But.of_below hal).trans h2⟩
def PlE (R : Except Nat (List UInt8)) (e : Ending) : Prop := match R with
  | .ok t => e = .returned (.tuple #[.string ⟨t.toArray⟩, .int .i64 0, .bool true])
  | .error p => e = .returned (.tuple #[.string ⟨#[]⟩, .int .i64 (p : Int), .bool false])
theorem plain_as {b : Nat} {w : World} {a : Nat} {x : ByteArray} {cur : World} {l : List UInt8} (S : Hid (AS b w a x cur l)) (v : List UInt8) (hv : Vt v) (hl : v.length ≤ 1048576) {R : Except Nat (List UInt8)} (hR : pl v = R) :
    Calls Tryd.prog 42 #[.string ⟨v.toArray⟩] cur fun e w' => AS b w a x w' l ∧ PlE R e := by
  have C := plain_any ⟨v.toArray⟩ cur (by rw [size_m]; exact hl) hv
  rw [mk_l, hR] at C
  refine C.mono fun e w' h => ⟨S.out.below h.1, ?_⟩
  have h2 := h.2
  cases R <;> exact h2
theorem cut_as {b : Nat} {w : World} {a : Nat} {x : ByteArray} {cur : World} {l : List UInt8} (S : Hid (AS b w a x cur l)) (hl : l.length ≤ 1048576) {A B : List UInt8} {t : Bool} (h : Lib.cut l [34] = (A, B, t)) :
    Calls Tryd.prog 89 #[.string ⟨l.toArray⟩, .string ⟨#[34]⟩] cur fun e w' => e = .returned (.tuple #[.string ⟨A.toArray⟩, .string ⟨B.toArray⟩, .bool t]) ∧ AS b w a x w' l := by
  obtain ⟨m, hm⟩ := S.out.mx
  have C := Any.strings_Cut lays145 ⟨l.toArray⟩ ⟨#[34]⟩ m cur (by rw [size_m]; omega) hm
  simp only [mk_l] at C
  change Calls Tryd.prog _ _ _ (fun e w' => e = .returned (.tuple #[.string ⟨(Lib.cut l [34]).1.toArray⟩, .string ⟨(Lib.cut l [34]).2.1.toArray⟩, .bool (Lib.cut l [34]).2.2]) ∧ ∃ n, w' = cur.drewN n) at C
  rw [h] at C
  exact C.mono fun e w' ⟨h1, n, h2⟩ => ⟨h1, by rw [h2]; exact S.out.below ⟨rfl, rfl, rfl, Nat.le_refl _, fun _ _ => rfl⟩⟩
theorem idxb_as (v : List UInt8) (cur : World) : Calls Tryd.prog 41 #[.string ⟨v.toArray⟩, .int .u8 60] cur fun e w' => e = .returned (.int .i64 (if 60 ∈ v then ((upto 60 v).length : Int) else -1)) ∧ w' = cur := by
  have C := Any.strings_IndexByte lays137 ⟨v.toArray⟩ 60 cur
  simp only [mk_l] at C
  rw [show ((60 : Int).toNat.toUInt8) = (60 : UInt8) from rfl, idx_upto] at C
  exact C
set_option maxHeartbeats 2000000 in
theorem attribute_any (b : Nat) (l : List UInt8) (w : World) (h : RA w b l) (hm : MX w) (hl : l.length ≤ 1048576) (hv : Vt l) (hg : lays145_ren.g 1 ≠ b) :
    Calls Tryd.prog 75 #[.pointer (some ⟨b, 0, none⟩)] w (AtR b w (att l)) := by
  have HRA := hide h
  have HMX := hide hm
  have HLE := hide hl
  have HG := hide hg
  have HLT := hide h.lt
  unfold att
  cases hn : nm l with
  | none =>
    have C := hide (name_no h hl hn (.cells #[.string ⟨#[]⟩, .string ⟨#[]⟩] 47))
    clear h hm hl hv hg hn
    go_enter Tryd.func75, Tryd.ntmps75
    go_wp2_with (first | (go_at_call 73; refine C.out.mono ?_; rintro e w1 ⟨rfl, hb⟩))
    exact ⟨rfl, rfl, hb⟩
  | some p =>
    obtain ⟨x, r⟩ := p
    have HNM := hide hn
    have hvr := vt_nm hv hn
    have hrl := (nm_len hn).1
    have HLN := hide (show r.length ≤ 1048576 by omega)
    show Calls Tryd.prog _ _ _ (AtR b w (if hp [61] (bk r) then (if hp [34] (bk (tp [61] (bk r))) then (match va (tp [34] (bk (tp [61] (bk r)))) with
      | none => none
      | some (t, q) => some (x, t, q)) else none) else none))
    cases h61 : hp [61] (bk r)
    · rw [if_neg (by simp)]
      have H61 := hide h61
      clear h hm hl hv hg hn hvr hrl h61
      go_enter Tryd.func75, Tryd.ntmps75
      go_wp2_with (first
        | (go_at_call 73; refine (name_as HRA.out HMX.out HLE.out HG.out HNM.out).mono ?_; rintro e w1 ⟨rfl, h2⟩; have S := hide h2; clear h2)
        | (go_at_call 74; refine (blanks_as S HLT.out HG.out (by have := HLN.out; have := bk_le r; have := tp_len [61] (bk r); have := bk_le (tp [61] (bk r)); omega)).mono ?_; rintro e w2 ⟨rfl, h2⟩; have S := hide h2; clear h2)
        | (go_at_call 58; refine (take_as S (p := [61]) H61.out HLT.out HG.out).mono ?_; rintro e w3 ⟨rfl, h2⟩; have S := hide h2; clear h2)
        | (go_at_call 57; refine (must_f _).mono ?_; rintro e w4 ⟨rfl, h2⟩; subst h2))
      exact ⟨rfl, rfl, S.out.bu⟩
    · rw [if_pos rfl]
      have H61 := hide h61
      have hv2 := vt_bk (vt_tp1 (by decide) (vt_bk hvr) h61)
      cases h34 : hp [34] (bk (tp [61] (bk r)))
      · rw [if_neg (by simp)]
        have H34 := hide h34
        obtain ⟨Q, hQ⟩ : ∃ Q : ByteArray, (⟨(tp [34] (bk (tp [61] (bk r)))).toArray⟩ : ByteArray) = Q := ⟨_, rfl⟩
        have HQ := hide hQ
        clear h hm hl hv hg hn hvr hrl h61 h34 hv2 hQ
        go_enter Tryd.func75, Tryd.ntmps75
        go_wp2_with (first
          | (go_at_call 73; refine (name_as HRA.out HMX.out HLE.out HG.out HNM.out).mono ?_; rintro e w1 ⟨rfl, h2⟩; have S := hide h2; clear h2)
          | (go_at_call 74; refine (blanks_as S HLT.out HG.out (by have := HLN.out; have := bk_le r; have := tp_len [61] (bk r); have := bk_le (tp [61] (bk r)); omega)).mono ?_; rintro e w2 ⟨rfl, h2⟩; have S := hide h2; clear h2)
          | (go_at_call 58; refine (take_as S (p := [61]) H61.out HLT.out HG.out).mono ?_; rintro e w3 ⟨rfl, h2⟩; have S := hide h2; clear h2)
          | (go_at_call 58; refine (take_as S (p := [34]) H34.out HLT.out HG.out).mono ?_; rintro e w3 ⟨rfl, h2⟩; have S := hide h2; clear h2)
          | (go_at_call 57; refine (must_t _).mono ?_; rintro e w4 ⟨rfl, h2⟩; subst h2)
          | (go_at_call 57; refine (must_f _).mono ?_; rintro e w4 ⟨rfl, h2⟩; subst h2))
        exact ⟨rfl, rfl, S.out.bu⟩
      · rw [if_pos rfl]
        have H34 := hide h34
        have hvq := vt_tp1 (by decide) hv2 h34
        have hql : (tp [34] (bk (tp [61] (bk r)))).length ≤ 1048576 := by have := bk_le r; have := tp_len [61] (bk r); have := bk_le (tp [61] (bk r)); have := tp_len [34] (bk (tp [61] (bk r))); omega
        obtain ⟨q, hq⟩ : ∃ q, tp [34] (bk (tp [61] (bk r))) = q := ⟨_, rfl⟩
        rw [hq] at hvq hql ⊢
        have HL34 := hide hql
        obtain ⟨Q, hQ⟩ : ∃ Q : ByteArray, (⟨q.toArray⟩ : ByteArray) = Q := ⟨_, rfl⟩
        have HQQ := hide hq
        have HQ := hide hQ
        have hcut := cut_one 34 q
        unfold va
        clear h hm hl hv hg hn hvr hrl h61 h34 hv2 hQ hq
        by_cases hm34 : 34 ∈ q
        · rw [if_pos hm34]
          rw [if_pos hm34] at hcut
          obtain ⟨hvu, hvd⟩ := vt_upto (by decide) hvq hm34
          have HCUT := hide hcut
          have HVU := hide hvu
          obtain ⟨I, hI⟩ : ∃ I : Int, (if 60 ∈ upto 34 q then ((upto 60 (upto 34 q)).length : Int) else -1) = I := ⟨_, rfl⟩
          have HI := hide hI
          by_cases hm60 : 60 ∈ upto 34 q
          · rw [if_pos hm60]
            have hI0 : decide (I < 0) = false := decide_eq_false (by rw [← hI, if_pos hm60]; omega)
            clear hvq hql hcut hm34 hvu hvd hI hm60
            go_enter Tryd.func75, Tryd.ntmps75
            go_wp2_with (first
              | (go_at_call 73; refine (name_as HRA.out HMX.out HLE.out HG.out HNM.out).mono ?_; rintro e w1 ⟨rfl, h2⟩; have S := hide h2; clear h2)
              | (go_at_call 74; refine (blanks_as S HLT.out HG.out (by have := HLN.out; have := bk_le r; have := tp_len [61] (bk r); have := bk_le (tp [61] (bk r)); omega)).mono ?_; rintro e w2 ⟨rfl, h2⟩; have S := hide h2; clear h2)
              | (go_at_call 58; refine (take_as S (p := [61]) H61.out HLT.out HG.out).mono ?_; rintro e w3 ⟨rfl, h2⟩; have S := hide h2; clear h2)
              | (go_at_call 58; refine (take_as S (p := [34]) H34.out HLT.out HG.out).mono ?_; rintro e w3 ⟨rfl, h2⟩; rw [HQQ.out] at h2; have S := hide h2; have c0 := S.out.ra.c0; rw [HQ.out] at c0; clear h2)
              | (go_at_call 89; rw [← HQ.out]; refine (cut_as S HL34.out HCUT.out).mono ?_; rintro e w3 ⟨rfl, h2⟩; have S := hide h2; clear h2)
              | (go_at_call 41; refine (idxb_as _ _).mono ?_; rintro e w3 ⟨rfl, h2⟩; subst h2; simp only [HI.out])
              | (go_at_call 57; refine (must_t _).mono ?_; rintro e w4 ⟨rfl, h2⟩; subst h2)
              | (go_at_call 57; refine (must_f _).mono ?_; rintro e w4 ⟨rfl, h2⟩; subst h2))
            exact ⟨rfl, rfl, S.out.bu⟩
          · rw [if_neg hm60]
            have hI0 : I < 0 := by rw [← hI, if_neg hm60]; omega
            cases hpl : pl (upto 34 q) with
            | error p =>
              have HPL := hide hpl
              clear hvq hql hcut hm34 hvu hvd hI hm60 hpl
              go_enter Tryd.func75, Tryd.ntmps75
              go_wp2_with (first
                | (go_at_call 73; refine (name_as HRA.out HMX.out HLE.out HG.out HNM.out).mono ?_; rintro e w1 ⟨rfl, h2⟩; have S := hide h2; clear h2)
                | (go_at_call 74; refine (blanks_as S HLT.out HG.out (by have := HLN.out; have := bk_le r; have := tp_len [61] (bk r); have := bk_le (tp [61] (bk r)); omega)).mono ?_; rintro e w2 ⟨rfl, h2⟩; have S := hide h2; clear h2)
                | (go_at_call 58; refine (take_as S (p := [61]) H61.out HLT.out HG.out).mono ?_; rintro e w3 ⟨rfl, h2⟩; have S := hide h2; clear h2)
                | (go_at_call 58; refine (take_as S (p := [34]) H34.out HLT.out HG.out).mono ?_; rintro e w3 ⟨rfl, h2⟩; rw [HQQ.out] at h2; have S := hide h2; have c0 := S.out.ra.c0; rw [HQ.out] at c0; clear h2)
                | (go_at_call 89; rw [← HQ.out]; refine (cut_as S HL34.out HCUT.out).mono ?_; rintro e w3 ⟨rfl, h2⟩; have S := hide h2; clear h2)
                | (go_at_call 41; refine (idxb_as _ _).mono ?_; rintro e w3 ⟨rfl, h2⟩; subst h2; simp only [HI.out])
                | (go_at_call 42; refine (plain_as S (upto 34 q) HVU.out (by have := HL34.out; have := upto_le 34 q; omega) HPL.out).mono ?_; rintro e w3 ⟨h2, rfl⟩; have S := hide h2; clear h2)
                | (go_at_call 57; refine (must_t _).mono ?_; rintro e w4 ⟨rfl, h2⟩; subst h2)
                | (go_at_call 57; refine (must_f _).mono ?_; rintro e w4 ⟨rfl, h2⟩; subst h2))
              exact ⟨rfl, rfl, S.out.bu⟩
            | ok t =>
              have HPL := hide hpl
              clear hvq hql hcut hm34 hvu hvd hI hm60 hpl
              go_enter Tryd.func75, Tryd.ntmps75
              go_wp2_with (first
                | (go_at_call 73; refine (name_as HRA.out HMX.out HLE.out HG.out HNM.out).mono ?_; rintro e w1 ⟨rfl, h2⟩; have S := hide h2; clear h2)
                | (go_at_call 74; refine (blanks_as S HLT.out HG.out (by have := HLN.out; have := bk_le r; have := tp_len [61] (bk r); have := bk_le (tp [61] (bk r)); omega)).mono ?_; rintro e w2 ⟨rfl, h2⟩; have S := hide h2; clear h2)
                | (go_at_call 58; refine (take_as S (p := [61]) H61.out HLT.out HG.out).mono ?_; rintro e w3 ⟨rfl, h2⟩; have S := hide h2; clear h2)
                | (go_at_call 58; refine (take_as S (p := [34]) H34.out HLT.out HG.out).mono ?_; rintro e w3 ⟨rfl, h2⟩; rw [HQQ.out] at h2; have S := hide h2; have c0 := S.out.ra.c0; rw [HQ.out] at c0; clear h2)
                | (go_at_call 89; rw [← HQ.out]; refine (cut_as S HL34.out HCUT.out).mono ?_; rintro e w3 ⟨rfl, h2⟩; have S := hide h2; clear h2)
                | (go_at_call 41; refine (idxb_as _ _).mono ?_; rintro e w3 ⟨rfl, h2⟩; subst h2; simp only [HI.out])
                | (go_at_call 42; refine (plain_as S (upto 34 q) HVU.out (by have := HL34.out; have := upto_le 34 q; omega) HPL.out).mono ?_; rintro e w3 ⟨h2, rfl⟩; have S := hide h2; have d0 := S.out.ab.cell 0; have d1 := S.out.ab.cell 1; have f1 := S.out.ab.frozen 1; simp at d0 d1; have e0 := S.out.ra.c0; have e1 := S.out.ra.f0; have y0 := S.out.z.cell 0; have y1 := S.out.z.cell 1; simp at y0 y1; have y2 := S.out.z.frozen 0; have y3 := S.out.z.frozen 1; have n1 : ¬ w1.heap.size = b := (by have := S.out.ne; have := HLT.out; omega); have n2 : ¬ b = w1.heap.size := (fun h => n1 h.symm); have n3 : ¬ w.heap.size = w1.heap.size := (by have := S.out.ne; omega); have n4 : ¬ w1.heap.size = w.heap.size := (fun h => n3 h.symm); have n5 : ¬ w.heap.size = b := (by have := HLT.out; omega); have n6 : ¬ b = w.heap.size := (fun h => n5 h.symm); clear h2)
                | (go_at_call 57; refine (must_t _).mono ?_; rintro e w4 ⟨rfl, h2⟩; subst h2))
              have F1 := hide ((((S.out.z.other n3 1 (.string ⟨t.toArray⟩)).other n5 0 (.string ⟨(q.drop ((upto 34 q).length + 1)).toArray⟩)).set 0 (.string ⟨x.toArray⟩)).set 1 (.string ⟨t.toArray⟩))
              have F2 := hide ((((S.out.ra.otherR n2 1 (.string ⟨t.toArray⟩)).set (q.drop ((upto 34 q).length + 1))).otherR n6 0 (.string ⟨x.toArray⟩)).otherR n6 1 (.string ⟨t.toArray⟩))
              have F3 := hide ((((S.out.bu.newR (Nat.le_of_lt S.out.ne) 1 (.string ⟨t.toArray⟩)).trans (But.setCell b _ 0 (.string ⟨(q.drop ((upto 34 q).length + 1)).toArray⟩))).newR (Nat.le_refl _) 0 (.string ⟨x.toArray⟩)).newR (Nat.le_refl _) 1 (.string ⟨t.toArray⟩))
              generalize (((w4.setCell ⟨w1.heap.size, 1, none⟩ (.string ⟨t.toArray⟩)).setCell ⟨b, 0, none⟩ (.string ⟨(q.drop ((upto 34 q).length + 1)).toArray⟩)).setCell ⟨w.heap.size, 0, none⟩ (.string ⟨x.toArray⟩)).setCell ⟨w.heap.size, 1, none⟩ (.string ⟨t.toArray⟩) = wf at F1 F2 F3 ⊢
              have g0 := F1.out.cell 0
              have g1 := F1.out.cell 1
              simp at g0 g1
              exact bodyPost_ret (v := .agg #[.string ⟨x.toArray⟩, .string ⟨t.toArray⟩]) (by simp [results, Tryd.results75, go_sem, g0, g1]) rfl ⟨rfl, F2.out, F3.out⟩
        · rw [if_neg hm34]
          rw [if_neg hm34] at hcut
          have HCUT := hide hcut
          clear hvq hql hcut hm34
          go_enter Tryd.func75, Tryd.ntmps75
          go_wp2_with (first
            | (go_at_call 73; refine (name_as HRA.out HMX.out HLE.out HG.out HNM.out).mono ?_; rintro e w1 ⟨rfl, h2⟩; have S := hide h2; clear h2)
            | (go_at_call 74; refine (blanks_as S HLT.out HG.out (by have := HLN.out; have := bk_le r; have := tp_len [61] (bk r); have := bk_le (tp [61] (bk r)); omega)).mono ?_; rintro e w2 ⟨rfl, h2⟩; have S := hide h2; clear h2)
            | (go_at_call 58; refine (take_as S (p := [61]) H61.out HLT.out HG.out).mono ?_; rintro e w3 ⟨rfl, h2⟩; have S := hide h2; clear h2)
            | (go_at_call 58; refine (take_as S (p := [34]) H34.out HLT.out HG.out).mono ?_; rintro e w3 ⟨rfl, h2⟩; rw [HQQ.out] at h2; have S := hide h2; have c0 := S.out.ra.c0; rw [HQ.out] at c0; clear h2)
            | (go_at_call 89; rw [← HQ.out]; refine (cut_as S HL34.out HCUT.out).mono ?_; rintro e w3 ⟨rfl, h2⟩; have S := hide h2; clear h2)
            | (go_at_call 57; refine (must_t _).mono ?_; rintro e w4 ⟨rfl, h2⟩; subst h2)
            | (go_at_call 57; refine (must_f _).mono ?_; rintro e w4 ⟨rfl, h2⟩; subst h2))
          exact ⟨rfl, rfl, S.out.bu⟩
end Go.Proofs.YtpmdekhjodhdmaaDoor.K17
