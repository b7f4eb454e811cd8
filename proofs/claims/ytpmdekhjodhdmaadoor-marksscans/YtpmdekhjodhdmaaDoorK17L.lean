/-
  What plain of marks answers, and escape, hasControl, Escape.
-/
import Derived.Test.YtpmdekhjodhdmaaDoorK17E
import Derived.WalkMore
namespace Go.Proofs.YtpmdekhjodhdmaaDoor.K17
open Go.RowKit Go.Proofs.YtpmdekhjodhdmaaDoor
open Go.Lib
set_option linter.unusedVariables false
set_option linter.unusedSimpArgs false
set_option maxRecDepth 8000

/- where the loop of plain stands -/
structure PS (w : World) (s : ByteArray) (R : Except Nat (List UInt8)) (v : Value) (wr : World) (pos : Nat) (acc : List UInt8) : Prop where
  bd : Bd wr w.heap.size w.heap.size acc
  it : wr.heap[w.heap.size + 1]? = some (.stringIter s pos)
  be : Below w.heap.size w wr
  ps : pos ≤ s.size
  al : acc.length ≤ 4 * pos
  vt : Vt (s.data.toList.drop pos)
  at' : (v = .int .i64 (-1) ∧ PL (s.data.toList.drop pos) pos acc R) ∨ ∃ o : Nat, v = .int .i64 (o : Int) ∧ o < pos ∧ PL (s.data.toList.drop o) o acc R ∧ s.data.toList[o]? = some 38 ∧ inE s.data.toList o pos
theorem it_lt {wr : World} {k : Nat} {s : ByteArray} {pos : Nat} (h : wr.heap[k]? = some (.stringIter s pos)) : k < wr.heap.size := heap_lt h
theorem getD_drop0 (l : List UInt8) (k : Nat) {b : UInt8} (h : l[k]? = some b) : (l.drop k).getD 0 0 = b := by
  rw [List.getD_eq_getElem?_getD, List.getElem?_drop, Nat.add_zero, h]; rfl
theorem drop_ne (l : List UInt8) (k : Nat) (h : k < l.length) : l.drop k ≠ [] := by
  intro h0; have := congrArg List.length h0; rw [List.length_drop] at this; simp at this; omega
set_option maxHeartbeats 4000000 in
theorem plain_any (s : ByteArray) (w : World) (hs : s.size ≤ 1048576) (hv : Vt s.data.toList) :
    Calls Tryd.prog 42 #[.string s] w (PlR w (pl s.data.toList)) := by
  have hs' : (s.size : Int) ≤ 1048576 := by omega
  have HS := hide hs
  have hl : s.data.toList.length = s.size := size_l s
  obtain ⟨R, hR⟩ : ∃ R, pl s.data.toList = R := ⟨_, rfl⟩
  rw [hR]
  have CE := hide entity_any
  have H0 := hide (show PS w s R (.int .i64 (-1)) (((w.alloc (.cells #[.pointer none, .slice none 0 0] 58)).alloc (.stringIter s 0))) 0 [] by
    refine ⟨(Bd.new w).below ((Below.refl _ _).alloc (Nat.le_refl _) _), ?_, ((Below.refl _ w).alloc (Nat.le_refl _) _).alloc (by simp) _, by omega, by simp, by simpa using hv, Or.inl ⟨rfl, by rw [← hR]; simpa using PL.start s.data.toList⟩⟩
    have := World.iter_heap (w.alloc (.cells #[.pointer none, .slice none 0 0] 58)) s 0
    have e : (w.alloc (.cells #[.pointer none, .slice none 0 0] 58)).heap.size = w.heap.size + 1 := by simp
    rw [e] at this
    exact this)
  clear hv hR hs
  go_enter Tryd.func42, Tryd.ntmps42
  go_wp2
  go_loopw [6] (fun v6 wr => ∃ (pos : Nat) (acc : List UInt8), Hid (PS w s R v6 wr pos acc)) (fun _ wr => s.size - wr.iterPos (w.heap.size + 1))
  case atStart => exact ⟨0, [], H0⟩
  case round =>
    clear H0
    obtain ⟨pos, acc, HP⟩ := hrel
    have hit := HP.out.it
    have hbe := HP.out.be
    have hwr : w.heap.size ≤ wr.heap.size := hbe.size
    by_cases hp : pos < s.size
    · have hnx : ∀ ty, (Instr.next (.pointer (some ⟨w.heap.size + 1, 0, none⟩)) true ty).run Tryd.prog wr = _ := fun ty => Lib.run_next_any_at wr (w.heap.size + 1) s pos ty hit hp
      obtain ⟨c, n, hd, hc, hn1, hn4, hle, hvt, htk, hb⟩ := vt_next HP.out.vt (by rw [hl]; exact hp)
      rw [dec_at s pos hp, hd] at hnx
      simp only at hnx
      have hcp := isP_t.1 hc
      have hc1 : (c : Int) ≤ 1114111 := hcp.2.1
      have hc0 : (0 : Int) ≤ (c : Int) := hcp.1
      have B2 := hide (HP.out.bd.kept (KC.iterAt hit (pos + n)))
      have it2 := Lib.iterAt_heap wr (w.heap.size + 1) s pos (pos + n) hit
      have be2 := Lib.below_iterAt hbe (k := w.heap.size + 1) (by omega) s (pos + n)
      have hsz2 : w.heap.size ≤ (wr.iterAt (w.heap.size + 1) s (pos + n)).heap.size := by rw [Lib.iterAt_size]; omega
      have hal := HP.out.al
      rw [hl] at hle
      have IT2 := hide it2
      have BE2 := hide be2
      have LE := hide (And.intro hle (And.intro hn1 hn4))
      have VT := hide hvt
      have b59 := hb 59 (by omega)
      have b38 := hb 38 (by omega)
      have HC := hide hc
      have AL := hide hal
      have hDN := hide hd
      have HTK := hide htk
      have CW := hide (fun (w2 : World) (h : wr.iterAt (w.heap.size + 1) s (pos + n) = w2) => wrune_any w.heap.size w.heap.size acc c w2 hc (by rw [← h]; exact B2.out) (by have := HP.out.al; have := HP.out.ps; have := HS.out; omega) (by rw [← h]; exact hsz2))
      rcases HP.out.at' with ⟨rfl, hPL⟩ | ⟨o, rfl, ho, hPL, h38, hin⟩
      · -- outside of an entity
        have hne := drop_ne s.data.toList pos (by rw [hl]; exact hp)
        by_cases h1 : c = 38
        · subst h1
          have h38 : s.data.toList[pos]? = some 38 := b38.1.1 rfl
          have H1 := hide (show PS w s R (.int .i64 (pos : Int)) (wr.iterAt (w.heap.size + 1) s (pos + n)) (pos + n) acc from
            ⟨B2.out, IT2.out, BE2.out, LE.out.1, by have := AL.out; omega, VT.out, Or.inr ⟨pos, rfl, by omega, hPL, h38, fun j hj1 hj2 => b59.2 (by decide) j (by omega) hj2⟩⟩)
          have hmz : (wr.iterAt (w.heap.size + 1) s (pos + n)).iterPos (w.heap.size + 1) = pos + n ∧ wr.iterPos (w.heap.size + 1) = pos := by
            constructor <;> simp only [World.iterPos, it2, hit]
          have HM := hide hmz
          clear hPL h38 b59 b38 hb hd htk hvt hcp hbe be2 hmz CW
          go_wp2
          go_roundw
          case rel => exact ⟨pos + n, acc, H1⟩
          case measure => have := HM.out; rw [this.1, this.2]; have := LE.out; omega
        · have h38 : ((c : Int) == 38) = false := by rw [beq_eq_false_iff_ne]; omega
          have hg38 : (s.data.toList.drop pos).getD 0 0 ≠ 38 := by
            have hlt : pos < s.data.toList.length := by rw [hl]; exact hp
            intro h
            apply h1
            apply b38.1.2
            rw [List.getD_eq_getElem?_getD, List.getElem?_drop, Nat.add_zero, List.getElem?_eq_getElem hlt] at h
            rw [List.getElem?_eq_getElem hlt]
            show some _ = some (38 : UInt8)
            exact congrArg some (by simpa using h)
          have CC := hide (fun w => ctl_any c w (by omega))
          cases hct : ctl c
          · have hst := hPL.step hne hg38 (by rw [hd]; exact hct)
            rw [hd] at hst
            simp only at hst
            rw [htk, List.drop_drop] at hst
            have HST := hide hst
            rw [hct] at CC
            clear hPL b59 b38 hb hd htk hvt hcp hbe be2 hst hne hg38 hct
            go_wp2_with (first | (go_at_call 53; refine (CC.out _).mono ?_; rintro e w1 ⟨rfl, rfl⟩) | (go_at_call 54; refine (CW.out _ rfl).mono ?_))
            rintro e W1 ⟨rfl, h1', k1⟩
            have H1 := hide (show PS w s R (.int .i64 (-1)) W1 (pos + n) (acc ++ e8 c) from
              ⟨h1', k1.oth.iter IT2.out (by omega), BE2.out.trans k1.below, LE.out.1, by have := AL.out; have := code8.len c; have := congrArg List.length HTK.out; rw [List.length_take] at this; have := LE.out; rw [List.length_append]; omega, VT.out, Or.inl ⟨rfl, HST.out⟩⟩)
            have hmz : W1.iterPos (w.heap.size + 1) = pos + n ∧ wr.iterPos (w.heap.size + 1) = pos := by
              constructor <;> simp only [World.iterPos, k1.oth.iter IT2.out (by omega : w.heap.size + 1 ≠ w.heap.size), hit]
            have HM := hide hmz
            clear h1' k1 hmz CW
            go_wp2
            go_roundw
            case rel => exact ⟨pos + n, _, H1⟩
            case measure => have := HM.out; rw [this.1, this.2]; have := LE.out; omega
          · have hst := hPL.ctl hne hg38 (by rw [hd]; exact hct)
            subst hst
            rw [hct] at CC
            clear hPL b59 b38 hb hd htk hvt hcp hbe be2 hne hg38 hct CW
            go_wp2_with (first | (go_at_call 53; refine (CC.out _).mono ?_; rintro e w1 ⟨rfl, rfl⟩))
            go_ret3
            exact ⟨BE2.out, rfl⟩
      · -- within an entity that begins at o
        have ho' : (o : Int) ≥ 0 := by omega
        have ho2 : (o : Int) < (pos : Int) := by omega
        have hp' : (pos : Int) ≤ (s.size : Int) := by omega
        by_cases h1 : c = 59
        · subst h1
          have h59 : s.data.toList[pos]? = some 59 := b59.1.1 rfl
          have hn : n = 1 := by
            have := congrArg List.length htk
            rw [List.length_take, List.length_drop, hl] at this
            have e : (e8 59).length = 1 := by decide
            omega
          subst hn
          have hea := ent_at hin ho h59
          have hex : (s.extract (o + 1) pos).data.toList = (s.data.toList.drop (o + 1)).take (pos - (o + 1)) := by rw [Lib.extract_data]
          have CE1 := hide (fun w => CE.out (s.extract (o + 1) pos) w (by rw [ByteArray.size_extract]; have := HS.out; omega))
          rw [hex] at CE1
          have hoe := drop_ne s.data.toList o (by rw [hl]; omega)
          have h38g := getD_drop0 _ _ h38
          have gg : IntKind.i64.wrap ((o : Int) + 1) = (o : Int) + 1 := by rw [IntKind.wrap_i64]; omega
          have g1 : (0 : Int) ≤ (o : Int) + 1 := by omega
          have g2 : (o : Int) + 1 ≤ (pos : Int) := by omega
          have g3 : ((o : Int) + 1).toNat = o + 1 := by omega
          cases hW : entW ((s.data.toList.drop (o + 1)).take (pos - (o + 1))) with
          | none =>
            rw [hW] at hea CE1
            have hst := hPL.none hoe h38g hea
            subst hst
            clear hPL b59 b38 hb hd htk hvt hcp hbe be2 hea hW hex hoe h38g h38 h59 CW
            go_wp2_with (first | (go_at_call 62; refine (CE1.out _).mono ?_; rintro e w1 ⟨rfl, rfl⟩; unfold nuR))
            go_ret3
            exact ⟨BE2.out, rfl⟩
          | some d =>
            rw [hW] at hea CE1
            have hst := hPL.ent hoe h38g hea
            rw [List.drop_drop, show o + (pos + 1 - o) = pos + 1 by omega] at hst
            have HST := hide hst
            have hdp := isP_t.1 (entW_P hW).1
            have CW2 := hide (fun (w2 : World) (h : wr.iterAt (w.heap.size + 1) s (pos + 1) = w2) => wrune_any w.heap.size w.heap.size acc d w2 (entW_P hW).1 (by rw [← h]; exact B2.out) (by have := HP.out.al; have := HP.out.ps; have := HS.out; omega) (by rw [← h]; exact hsz2))
            have d1 : (d : Int) ≤ 1114111 := hdp.2.1
            clear hPL b59 b38 hb hd htk hvt hcp hbe be2 hea hW hex hoe h38g h38 h59 CW hst hdp
            go_wp2_with (first | (go_at_call 62; refine (CE1.out _).mono ?_; rintro e w1 ⟨rfl, rfl⟩; unfold nuR; simp only [Option.getD_some, Option.isSome_some]) | (go_at_call 54; refine (CW2.out _ rfl).mono ?_))
            rintro e W1 ⟨rfl, h1', k1⟩
            have H1 := hide (show PS w s R (.int .i64 (-1)) W1 (pos + 1) (acc ++ e8 d) from
              ⟨h1', k1.oth.iter IT2.out (by omega), BE2.out.trans k1.below, LE.out.1, by have := AL.out; have := code8.len d; rw [List.length_append]; omega, VT.out, Or.inl ⟨rfl, HST.out⟩⟩)
            have hmz : W1.iterPos (w.heap.size + 1) = pos + 1 ∧ wr.iterPos (w.heap.size + 1) = pos := by
              constructor <;> simp only [World.iterPos, k1.oth.iter IT2.out (by omega : w.heap.size + 1 ≠ w.heap.size), hit]
            have HM := hide hmz
            clear h1' k1 hmz CW2
            go_wp2
            go_roundw
            case rel => exact ⟨pos + 1, _, H1⟩
            case measure => have := HM.out; rw [this.1, this.2]; have := LE.out; omega
        · have h59 : ((c : Int) == 59) = false := by rw [beq_eq_false_iff_ne]; omega
          have H1 := hide (show PS w s R (.int .i64 (o : Int)) (wr.iterAt (w.heap.size + 1) s (pos + n)) (pos + n) acc from
            ⟨B2.out, IT2.out, BE2.out, LE.out.1, by have := AL.out; omega, VT.out, Or.inr ⟨o, rfl, by omega, hPL, h38, fun j hj1 hj2 => by
              by_cases hj : j < pos
              · exact hin j hj1 hj
              · exact b59.2 h1 j (by omega) hj2⟩⟩)
          have hmz : (wr.iterAt (w.heap.size + 1) s (pos + n)).iterPos (w.heap.size + 1) = pos + n ∧ wr.iterPos (w.heap.size + 1) = pos := by
            constructor <;> simp only [World.iterPos, it2, hit]
          have HM := hide hmz
          clear hPL h38 b59 b38 hb hd htk hvt hcp hbe be2 hmz CW
          go_wp2
          go_roundw
          case rel => exact ⟨pos + n, acc, H1⟩
          case measure => have := HM.out; rw [this.1, this.2]; have := LE.out; omega
    · have hnx : ∀ ty, (Instr.next (.pointer (some ⟨w.heap.size + 1, 0, none⟩)) true ty).run Tryd.prog wr = _ := fun ty => Lib.run_next_end_at wr (w.heap.size + 1) s pos ty hit hp
      have hpe : pos = s.size := by have := HP.out.ps; omega
      rcases HP.out.at' with ⟨rfl, hPL⟩ | ⟨o, rfl, ho, hPL, h38, hin⟩
      · rw [List.drop_eq_nil_of_le (by rw [hl]; omega)] at hPL
        have hst := hPL.done
        subst hst
        have CB := hide (bstr_any w.heap.size w.heap.size acc wr HP.out.bd hwr)
        clear hPL
        go_wp2_with (first | (go_at_call 29; refine CB.out.mono ?_))
        rintro e W1 ⟨rfl, b1⟩
        have HB := hide (hbe.trans b1)
        clear b1
        go_wp2
        go_ret3
        exact ⟨HB.out, rfl⟩
      · subst hpe
        have hst := hPL.none (drop_ne s.data.toList o (by rw [hl]; omega)) (getD_drop0 _ _ h38) (ent_none (by rw [hl]; exact hin))
        subst hst
        have ho' : (o : Int) ≥ 0 := by omega
        clear hPL h38 hin
        go_wp2
        go_ret3
        exact ⟨hbe, rfl⟩
end Go.Proofs.YtpmdekhjodhdmaaDoor.K17
