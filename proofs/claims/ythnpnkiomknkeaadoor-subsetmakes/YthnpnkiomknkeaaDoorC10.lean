/-
  Joined: G10Rc.
-/
import Derived.Deep.RegionLaw
import Derived.Test.YthnpnkiomknkeaaDoorC09
namespace Go.Proofs.YthnpnkiomknkeaaDoor.G10
open Go.RowKit Go.Deep
set_option linter.unusedVariables false
set_option linter.unusedSimpArgs false
theorem cmp_short {l : List UInt8} {N m a : Nat} {acc : List Nat} (h : ¬ a + 4 ≤ N) : cmpA l N m a acc = none := by
  cases m <;> simp [cmpA, h]
theorem cmp_mtx {l : List UInt8} {N m a : Nat} {acc : List Nat} (h : mtx (n2 l a) = none) : cmpA l N m a acc = none := by
  cases m <;> simp [cmpA, h]
theorem cmp_over {l : List UInt8} {N m a k : Nat} {acc : List Nat} (h : mtx (n2 l a) = some k) (h2 : ¬ a + 4 + offs (n2 l a) + k ≤ N) : cmpA l N m a acc = none := by
  cases m <;> simp [cmpA, h, h2]
theorem cmp_more {l : List UInt8} {N m a k : Nat} {acc : List Nat} (h : mtx (n2 l a) = some k) (h2 : a + 4 + offs (n2 l a) + k ≤ N) (h3 : hb (n2 l a) 32 = true) : cmpA l N (m + 1) a acc = cmpA l N m (a + 4 + offs (n2 l a) + k) (acc ++ [a + 2]) := by
  have h4 : a + 4 ≤ N := by omega
  simp [cmpA, h, h2, h3, h4]
theorem cmp_ins {l : List UInt8} {N m a k : Nat} {acc : List Nat} (h : mtx (n2 l a) = some k) (h2 : a + 4 + offs (n2 l a) + k ≤ N) (h3 : hb (n2 l a) 32 = false) (h5 : hb (n2 l a) 256 = true) : cmpA l N (m + 1) a acc = (insV l N (a + 4 + offs (n2 l a) + k)).map fun q => (acc ++ [a + 2], q) := by
  have h4 : a + 4 ≤ N := by omega
  unfold insV
  simp only [cmpA, h, if_pos h2, h3, if_pos h4, h5]
  simp only [Bool.false_eq_true, if_false, if_true]
  split <;> rfl
theorem cmp_done {l : List UInt8} {N m a k : Nat} {acc : List Nat} (h : mtx (n2 l a) = some k) (h2 : a + 4 + offs (n2 l a) + k ≤ N) (h3 : hb (n2 l a) 32 = false) (h5 : hb (n2 l a) 256 = false) : cmpA l N (m + 1) a acc = some (acc ++ [a + 2], a + 4 + offs (n2 l a) + k) := by
  have h4 : a + 4 ≤ N := by omega
  simp [cmpA, h, h2, h3, h4, h5]
theorem app_i1 {W : World} {B : Nat} {v : Value} {zs : List Int} (x : Int) (h : IRow W B v zs) (hB : B ≤ W.heap.size) (hl : zs.length ≤ 1000000) (H : Nat) (hH : W.heap.size = H) :
    ∃ v' w2, (Builtin.append_ #[23, 23] 23 #[v, .slice (some ⟨H, 0, none⟩) 1 1]).run Tryd.prog (W.alloc (.cells #[.int .i64 x] 3)) = .ok v' w2 ∧
      IRow w2 B v' (zs ++ [x]) ∧ (v'.ownBlock = v.ownBlock ∨ ∃ g, v'.ownBlock = some g ∧ W.heap.size ≤ g) ∧ W.heap.size ≤ w2.heap.size ∧ (∀ k, k < W.heap.size → v.ownBlock ≠ some k → w2.heap[k]? = W.heap[k]?) ∧ Below B W w2 := by
  obtain ⟨i0, hi, hz0, hz1, hz2⟩ := info_parts5 info_int
  subst hH
  obtain ⟨g, cap, w2, hr, ho, hg, hat, _⟩ := run_append_lies (P := Tryd.prog) (W.alloc (.cells #[.int .i64 x] 3)) 23 23 B 3 i0 _ 1 8 Tryd.underlying23 hi hz0 hz1 hz2 rfl (by decide) v zs.length (zs.map (Value.int .i64)) (World.ownsRow.alloc h _) ⟨W.heap.size, 0, none⟩ 1 1 [.int .i64 x] (by simp)
    (fun j u hu => by rw [Go.WideShapes.add_plain, Nat.zero_add, World.cell?_alloc_at _ _ _ _ rfl]; simpa using hu) (fun u hu => by simp at hu; subst hu; rfl) (by decide) (by unfold maxLen; omega) (by omega) (by simp; omega) (W.heap.size + 1) (by simp)
  refine ⟨_, w2, hr, ?_, ?_, ?_, ?_, ((Below.refl B W).alloc hB _).grown hg (by simp; omega) fun k hk' => (World.ownsRow.lt h k hk').1⟩
  · unfold IRow
    rw [List.map_append, List.length_append]
    exact ho
  · rcases hat with hat | hat
    · exact Or.inl (by rw [hat]; rfl)
    · exact Or.inr ⟨g, rfl, by omega⟩
  · have := hg.size; simp at this; omega
  · intro k hk hne
    rw [hg.block k (by simp; omega) (Ne.symm hne)]
    exact ((Below.refl W.heap.size W).alloc (Nat.le_refl _) (.cells #[.int .i64 x] 3)).block k hk
theorem _root_.Go.Proofs.YthnpnkiomknkeaaDoor.IRow.kept {w w' : World} {B : Nat} {v : Value} {zs : List Int} (h : IRow w B v zs) (hk : ∀ k, v.ownBlock = some k → k < w.heap.size → w'.heap[k]? = w.heap[k]?) : IRow w' B v zs := by
  obtain ⟨h1, h2 | ⟨g, cap, cur, hv, hg, hh, hr⟩⟩ := h
  · exact ⟨h1, Or.inl h2⟩
  · have hlt : g < w.heap.size := by
      rcases Nat.lt_or_ge g w.heap.size with h | h
      · exact h
      · rw [Array.getElem?_eq_none h] at hh; simp at hh
    exact ⟨h1, Or.inr ⟨g, cap, cur, hv, hg, by rw [hk g (by rw [hv]; rfl) hlt]; exact hh, hr⟩⟩
theorem _root_.Go.Proofs.YthnpnkiomknkeaaDoor.IRow.own {w : World} {B : Nat} {v : Value} {zs : List Int} (h : IRow w B v zs) : ∀ k, v.ownBlock = some k → B ≤ k ∧ k < w.heap.size := fun k hk => World.ownsRow.lt h k hk
theorem _root_.Go.Proofs.YthnpnkiomknkeaaDoor.IRow.but {w w' : World} {B b : Nat} {v : Value} {zs : List Int} (h : IRow w B v zs) (hb : But b w w') (hlt : b < B) : IRow w' B v zs :=
  h.kept fun k hk hl => hb.block k hl (by have := (h.own k hk).1; omega)
theorem But.grown {b B : Nat} {w W w' : World} (h : But b w W) (hB : Below B W w') (hle : w.heap.size ≤ B) (hs : W.heap.size ≤ w'.heap.size) : But b w w' :=
  ⟨hB.os.trans h.os, hB.tape.trans h.tape, hB.output.trans h.output, Nat.le_trans h.size hs, fun k hk hn => by rw [hB.block k (by omega), h.block k hk hn]⟩
def ints (l : List Nat) : List Int := l.map fun (x : Nat) => (x : Int)
theorem ints_snoc (l : List Nat) (x : Nat) : ints (l ++ [x]) = ints l ++ [(x : Int)] := by simp [ints]
theorem ints_len (l : List Nat) : (ints l).length = l.length := by simp [ints]
theorem pass_okz (b : Nat) (s : ByteArray) (a c : Nat) (z : Int) (w : World) (hz : z = (c : Int)) (h : RA w b s a) (hs : s.size ≤ 1000000) (hc : a + c ≤ s.size) :
    Calls Tryd.prog 65 #[.pointer (some ⟨b, 0, none⟩), .int .i64 z] w fun e w' => e = .returned (.string (s.extract a (a + c))) ∧ But b w w' ∧ RA w' b s (a + c) := by
  subst hz; exact pass_ok b s a c w h hs hc
theorem pass_badz (b : Nat) (s : ByteArray) (a c : Nat) (z : Int) (w : World) (hz : z = (c : Int)) (h : RA w b s a) (hs : s.size ≤ 1000000) (ha : a ≤ s.size) (hc : ¬ a + c ≤ s.size) :
    Calls Tryd.prog 65 #[.pointer (some ⟨b, 0, none⟩), .int .i64 z] w fun e w' => e = thrown ∧ But b w w' := by
  subst hz; exact pass_bad b s a c w h hs ha hc
def CpR (b : Nat) (w : World) (s : ByteArray) (R : Option (List Nat × Nat)) (e : Ending) (w' : World) : Prop := match R with
  | some (ps, q) => ∃ v, e = .returned v ∧ IRow w' w.heap.size v (ints ps) ∧ But b w w' ∧ RA w' b s q
  | none => e = thrown ∧ But b w w'
set_option maxRecDepth 8000 in
set_option maxHeartbeats 2000000 in
theorem comp_any (b : Nat) (s : ByteArray) (w : World) (h : RA w b s 10) (hs : s.size ≤ 1000000) (hN : 10 ≤ s.size) :
    Calls Tryd.prog 66 #[.pointer (some ⟨b, 0, none⟩)] w (CpR b w s (cmpA s.data.toList s.size 64 10 [])) := by
  obtain ⟨R, hR⟩ : ∃ R, cmpA s.data.toList s.size 64 10 [] = R := ⟨_, rfl⟩
  rw [hR]
  have CT := hide must_t
  have CF := hide must_f
  have CO := hide (fun a w' (h' : RA w' b s a) (h2 : a + 2 ≤ s.size) => rnum_ok b s a w' h' hs h2)
  have CB := hide (fun a w' (h' : RA w' b s a) (h1 : a ≤ s.size) (h2 : ¬ a + 2 ≤ s.size) => rnum_bad b s a w' h' hs h1 h2)
  have CP := hide (fun (z : Int) (a c : Nat) w' (hz : z = (c : Int)) (h' : RA w' b s a) (h2 : a + c ≤ s.size) => pass_okz b s a c z w' hz h' hs h2)
  have CQ := hide (fun (z : Int) (a c : Nat) w' (hz : z = (c : Int)) (h' : RA w' b s a) (h1 : a ≤ s.size) (h2 : ¬ a + c ≤ s.size) => pass_badz b s a c z w' hz h' hs h1 h2)
  have CI := hide (fun a w' (h' : RA w' b s a) (h1 : a ≤ s.size) => ins_any b s a w' h' hs h1)
  have hbw := h.lt
  have H0 := hide h
  have HR := hide hR
  have HN := hide hN
  clear h hR hN
  go_enter Tryd.func66, Tryd.ntmps66
  go_wp2_with fail
  go_loopg [3] 64 (fun g v wr => ∃ (m a : Nat) (acc : List Nat), Hid (g = m ∧ acc.length + m = 64 ∧ a ≤ s.size ∧ cmpA s.data.toList s.size m a acc = R ∧ But b w wr ∧ RA wr b s a ∧ IRow wr w.heap.size v (ints acc)))
  case atStart => exact ⟨64, 10, [], hide ⟨rfl, rfl, HN.out, HR.out, But.refl _ _, H0.out, IRow.nil _ _⟩⟩
  case round =>
    obtain ⟨m, a, acc, HV⟩ := hrel
    obtain ⟨hg, k1, k2, k3, k4, k5, k6⟩ := HV.out
    obtain ⟨ad, cap, hv, _⟩ := k6.lst
    rw [ints_len] at hv
    subst hv
    have hal : acc.length ≤ 64 := by omega
    have HG := hide hg
    have K1 := hide k1
    have K3 := hide k3
    have K4 := hide k4
    have K5 := hide k5
    have K6 := hide k6
    clear HV hg k1 k3 k4 k5 k6 H0 HR HN
    have hll := ints_len acc
    generalize hLN : acc.length = LN at K1 K6 hal hll ⊢
    have HLQ := hide hLN
    have HLL := hide hll
    clear hLN hll
    have l1 : (LN : Int) ≤ 64 := by omega
    cases m with
    | zero =>
      have hd : decide ((LN : Int) < 64) = false := by have := K1.out; simp; omega
      have E := hide (show R = none by rw [← K3.out]; rfl)
      go_wp2_with fail
      refine (CF.out _).mono ?_
      rintro e wy ⟨rfl, hy⟩
      subst wy
      refine ⟨rfl, ?_⟩
      rw [E.out]
      exact ⟨rfl, K4.out⟩
    | succ m =>
      have hd : decide ((LN : Int) < 64) = true := by have := K1.out; simp; omega
      by_cases h2 : a + 2 ≤ s.size
      case neg =>
        have C := hide (CB.out _ _ K5.out k2 h2)
        have E := hide (show R = none by rw [← K3.out, cmp_short (by omega)])
        go_wp2_with fail
        refine (CT.out _).mono ?_
        rintro e wy ⟨rfl, hy⟩
        subst wy
        go_wp2_with fail
        refine C.out.mono ?_
        rintro e w1 ⟨rfl, h1⟩
        refine ⟨rfl, ?_⟩
        rw [E.out]
        exact ⟨rfl, K4.out.trans h1⟩
      have C := hide (CO.out _ _ K5.out h2)
      have hf := n2_lt s.data.toList a
      have COf := hide (fun w => offset_any (n2 s.data.toList a) w (by omega))
      have CMt := hide (fun w => matrix_any (n2 s.data.toList a) w (by omega))
      have ob := offs_bd (n2 s.data.toList a)
      obtain ⟨X, hX⟩ : ∃ X : Int, X = ((a + 2 : Nat) : Int) := ⟨_, rfl⟩
      have HX := hide hX
      clear hX
      generalize hLV : ints acc = zs at K6
      have HZ := hide hLV
      have hzl : zs.length ≤ 64 := by rw [← hLV, ints_len, HLQ.out]; omega
      clear hLV
      go_wp2_with fail
      refine (CT.out _).mono ?_
      rintro e wy ⟨rfl, hy⟩
      subst wy
      go_wp2_with fail
      refine C.out.mono ?_
      rintro e w1 ⟨rfl, h1, h3⟩
      have hz1 : w.heap.size ≤ w1.heap.size := (K4.out.trans h1).size
      have hbw1 : b < w1.heap.size := by omega
      obtain ⟨⟨c0, c1⟩, f0, f1⟩ := h3.two
      rw [← HX.out] at c1
      obtain ⟨v', w2, hr, r1, r2, r3, r4, r5⟩ := app_i1 X (K6.out.but h1 hbw) hz1 (by omega) w1.heap.size rfl
      have HRU := hide hr
      have H1 := hide ((K4.out.trans h1).grown r5 (Nat.le_refl _) r3)
      have H2 : Hid (RA w2 b s (a + 2)) := hide (by
        unfold RA Blk
        rw [r4 b hbw1 (fun e => by have := (K6.out.own b e).1; omega)]
        exact h3)
      have H3 : Hid (IRow w2 w.heap.size v' (ints (acc ++ [a + 2]))) := hide (by rw [ints_snoc, HZ.out, ← HX.out]; exact r1)
      clear hr r1 r2 r3 r4 r5 h1 h3 C f0 f1
      go_wp2_with (at_builtin; refine Lib.wpList_append_run _ rfl _ _ _ _ rfl _ _ rfl rfl _ _ HRU.out ?_)
      refine (COf.out _).mono ?_
      rintro e wy ⟨rfl, hy⟩
      subst wy
      have o1 : ((offs (n2 s.data.toList a) : Nat) : Int) ≤ 4 := by omega
      go_wp2_with fail
      have CM2 := CMt.out w2
      cases hm : mtx (n2 s.data.toList a) with
      | none =>
        rw [hm] at CM2
        have E := hide (show R = none by rw [← K3.out, cmp_mtx hm])
        refine CM2.mono ?_
        rintro e w3 ⟨rfl, hw⟩
        subst w3
        refine ⟨rfl, ?_⟩
        rw [E.out]
        exact ⟨rfl, H1.out⟩
      | some k =>
        rw [hm] at CM2
        have hk8 := mtx_le hm
        have hk8' : (k : Int) ≤ 8 := by omega
        refine CM2.mono ?_
        rintro e w3 ⟨rfl, hw⟩
        subst w3
        have HM := hide hm
        clear CM2 hm
        go_wp2_with fail
        by_cases hle : a + 4 + offs (n2 s.data.toList a) + k ≤ s.size
        case neg =>
          have E := hide (show R = none by rw [← K3.out, cmp_over HM.out hle])
          refine (CQ.out _ (a + 2) (2 + offs (n2 s.data.toList a) + k) _ (by omega) H2.out h2 (by omega)).mono ?_
          rintro e w3 ⟨rfl, h1⟩
          refine ⟨rfl, ?_⟩
          rw [E.out]
          exact ⟨rfl, H1.out.trans h1⟩
        refine (CP.out _ (a + 2) (2 + offs (n2 s.data.toList a) + k) _ (by omega) H2.out (by omega)).mono ?_
        rintro e w3 ⟨rfl, h1, h3⟩
        have H4 := hide (H1.out.trans h1)
        have H5 : Hid (RA w3 b s (a + 4 + offs (n2 s.data.toList a) + k)) := hide (by
          have : a + 2 + (2 + offs (n2 s.data.toList a) + k) = a + 4 + offs (n2 s.data.toList a) + k := by omega
          rw [← this]; exact h3)
        have H6 := hide (H3.out.but h1 hbw)
        clear h1 h3 H1 H2 H3
        cases h32 : hb (n2 s.data.toList a) 32
        case true =>
          obtain ⟨x, e1, e2, e3⟩ := bit_t (f := n2 s.data.toList a) (m := 32) (by omega) (by omega) h32
          have e1 : bits .and .i64 ((n2 s.data.toList a : Nat) : Int) 32 = x := e1
          have E := hide (show cmpA s.data.toList s.size m (a + 4 + offs (n2 s.data.toList a) + k) (acc ++ [a + 2]) = R by rw [← K3.out, cmp_more HM.out hle h32])
          clear h32
          go_wp2_with fail
          go_roundg m
          case measure => have := HG.out; omega
          case rel => exact ⟨m, a + 4 + offs (n2 s.data.toList a) + k, acc ++ [a + 2], hide ⟨rfl, by rw [List.length_append, List.length_singleton, HLQ.out]; have := K1.out; omega, hle, E.out, H4.out, H5.out, H6.out⟩⟩
        case false =>
          have e1 : bits .and .i64 ((n2 s.data.toList a : Nat) : Int) 32 = 0 := bit_f (m := 32) (by omega) (by omega) h32
          cases h256 : hb (n2 s.data.toList a) 256
          case false =>
            have e2 : bits .and .i64 ((n2 s.data.toList a : Nat) : Int) 256 = 0 := bit_f (m := 256) (by omega) (by omega) h256
            have E := hide (show R = some (acc ++ [a + 2], a + 4 + offs (n2 s.data.toList a) + k) by rw [← K3.out, cmp_done HM.out hle h32 h256])
            clear h32 h256
            go_wp2_with fail
            go_ret
            rw [E.out]
            exact ⟨_, rfl, H6.out, H4.out, H5.out⟩
          case true =>
            obtain ⟨x, e2, e3, e4⟩ := bit_t (f := n2 s.data.toList a) (m := 256) (by omega) (by omega) h256
            have e2 : bits .and .i64 ((n2 s.data.toList a : Nat) : Int) 256 = x := e2
            have E := hide (show R = (insV s.data.toList s.size (a + 4 + offs (n2 s.data.toList a) + k)).map fun q => (acc ++ [a + 2], q) by rw [← K3.out, cmp_ins HM.out hle h32 h256])
            have C2 := CI.out _ _ H5.out hle
            clear h32 h256
            cases hi : insV s.data.toList s.size (a + 4 + offs (n2 s.data.toList a) + k) with
            | none =>
              rw [hi] at C2 E
              have C2 := hide C2
              clear hi
              go_wp2_with fail
              refine C2.out.mono ?_
              rintro e w4 ⟨rfl, h1⟩
              refine ⟨rfl, ?_⟩
              rw [E.out]
              exact ⟨rfl, H4.out.trans h1⟩
            | some q =>
              rw [hi] at C2 E
              have C2 := hide C2
              clear hi
              go_wp2_with fail
              refine C2.out.mono ?_
              rintro e w4 ⟨rfl, h1, h3⟩
              have H7 := hide (H4.out.trans h1)
              have H8 := hide h3
              have H9 := hide (H6.out.but h1 hbw)
              clear h1 h3
              go_wp2_with fail
              go_ret
              rw [E.out]
              exact ⟨_, rfl, H9.out, H7.out, H8.out⟩
end Go.Proofs.YthnpnkiomknkeaaDoor.G10
