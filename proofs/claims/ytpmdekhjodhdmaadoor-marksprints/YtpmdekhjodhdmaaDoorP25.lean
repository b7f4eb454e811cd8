/-
  Joined: K17Ml, K17Mk.
-/
import Derived.BigQuiet
import Derived.Deep.QuietTactic
import Derived.Test.YtpmdekhjodhdmaaDoorP23
import Derived.Test.YtpmdekhjodhdmaaDoorP24
namespace Go.Proofs.YtpmdekhjodhdmaaDoor.K17
open Go.RowKit Go.Proofs.YtpmdekhjodhdmaaDoor
open Go.Lib
set_option linter.unusedVariables false
set_option linter.unusedSimpArgs false
set_option maxRecDepth 100000
def LgG (n : Nat) (ts : List Tg) (w : World) (e : Ending) (w' : World) : Prop := ∃ b : Bool, e = .returned (.bool b) ∧ (b = false → n ≤ 400 ∧ szL ts ≤ 20000) ∧ Below w.heap.size w w'
theorem szL_succ (ts : List Tg) (j : Nat) (h : j < ts.length) : szL (ts.take (j + 1)) = szL (ts.take j) + szT (ts.getD j tg0) := sum_take szT tg0 ts j h
set_option maxHeartbeats 4000000 in
theorem long_any (a : Option Addr) (n c : Nat) (ts : List Tg) (w : World) (hT : GIn w a n ts) :
    Calls Tryd.prog 13 #[.slice a n c] w (LgG n ts w) := by
  have hni : (n : Int) ≤ 9223372036854775807 := by have := hT.most; omega
  have HN := hide hT.len
  have HL := hide hT.lst
  have HR := hide hT.rng
  clear hT
  go_enter Tryd.func13, Tryd.ntmps13
  go_wp2_with fail
  go_loopw [3, 4] (fun vn vi wr => ∃ (j N : Nat), vi = .int .i64 j ∧ vn = .int .i64 (N : Int) ∧ Hid (j ≤ n ∧ N = szL (ts.take j) ∧ N ≤ 20000000000000000 ∧ Below w.heap.size w wr)) (fun _ vi _ => n - (RowKit.intOf vi).toNat)
  case atStart => exact ⟨0, 0, rfl, rfl, hide ⟨by omega, by simp [szL], by omega, Below.refl _ _⟩⟩
  case round =>
    obtain ⟨j, N, rfl, rfl, HJ⟩ := hrel
    obtain ⟨j1, j2, j3, j4⟩ := HJ.out
    clear HJ
    by_cases hj : j < n
    · have hj' : (j : Int) < (n : Int) := by omega
      by_cases hN : N ≤ 20000
      · have hN' : (N : Int) ≤ 20000 := by omega
        rcases HL.out.below j4 with h0 | ⟨b, off, rfl, hlt, hcell⟩
        · have := HN.out; rw [h0] at this; simp at this; omega
        obtain ⟨aa, ac, c0, c1, c2, c3, c4, hal, hcap⟩ := hcell j (by have := HN.out; omega)
        have hmem : ts.getD j tg0 ∈ ts := by rw [List.getD_eq_getElem?_getD, List.getElem?_eq_getElem (by have := HN.out; omega)]; exact List.getElem_mem _
        have hsz := szL_succ ts j (by have := HN.out; omega)
        obtain ⟨_, _, rx, rt, rn, rp⟩ := HR.out _ hmem
        clear hcell hmem c0 c4
        generalize ts.getD j tg0 = t at *
        obtain ⟨κ, x, tt, ps, ta⟩ := t
        simp only at c1 c2 c3 hal hcap rx rt rn rp
        unfold szT at hsz
        simp only at hsz
        have sx := size_m' x
        have st := size_m' tt
        generalize (⟨x.toArray⟩ : ByteArray) = X at *
        generalize (⟨tt.toArray⟩ : ByteArray) = Y at *
        obtain ⟨m, hm⟩ : ∃ m, ps.length = m := ⟨_, rfl⟩
        rw [hm] at c3 hsz rn hcap
        obtain ⟨s1, h1⟩ : ∃ s1 : Nat, 1 + X.size = s1 := ⟨_, rfl⟩
        obtain ⟨s2, h2⟩ : ∃ s2 : Nat, s1 + Y.size = s2 := ⟨_, rfl⟩
        obtain ⟨s3, h3⟩ : ∃ s3 : Nat, s2 + m = s3 := ⟨_, rfl⟩
        obtain ⟨N1, h4⟩ : ∃ N1 : Nat, N + s3 = N1 := ⟨_, rfl⟩
        have e1 : (1 : Int) + (X.size : Int) = (s1 : Int) := by omega
        have e2 : (s1 : Int) + (Y.size : Int) = (s2 : Int) := by omega
        have e3 : (s2 : Int) + (m : Int) = (s3 : Int) := by omega
        have e4 : (N : Int) + (s3 : Int) = (N1 : Int) := by omega
        have bX : (X.size : Int) ≤ 140737488351232 := by omega
        have bY : (Y.size : Int) ≤ 140737488351232 := by omega
        have bm : (m : Int) ≤ 17592186044416 := by omega
        have b1 : (s1 : Int) ≤ 1000000000000000 := by omega
        have b2 : (s2 : Int) ≤ 1000000000000000 := by omega
        have b3 : (s3 : Int) ≤ 1000000000000000 := by omega
        have b4 : (N1 : Int) ≤ 1000000000000000 := by omega
        have HSZ := hide (show szL (ts.take (j + 1)) = N1 + szA (ps.take 40) by rw [hsz, ← j2]; omega)
        have HB1 := hide (show N1 ≤ 1000000000000000 by omega)
        have HM := hide hm
        have HP := hide rp
        have HAL := hide hal
        have HC3 := hide (show ∀ u, Below wr.heap.size wr u → u.cell? ⟨b, off + j * 5 + 3, none⟩ = some (.slice aa m ac) from fun u hu => by rw [hu.cell (p := ⟨b, off + j * 5 + 3, none⟩) hlt]; exact c3)
        have J4 := hide j4
        clear hsz sx st hm h1 h2 h3 h4 rx rt rn rp hal hcap j2 j3 j4 hN
        go_wp2_with fail
        go_quiet (fail)
        go_wp2_with fail
        go_loopw [3, 5] (fun vn vk wz => ∃ (i M : Nat), vk = .int .i64 i ∧ vn = .int .i64 (M : Int) ∧ Hid (i ≤ m ∧ i ≤ 40 ∧ M = N1 + szA (ps.take i) ∧ Below wr.heap.size wr wz)) (fun _ vk _ => m - (RowKit.intOf vk).toNat)
        case atStart => exact ⟨0, N1, rfl, rfl, hide ⟨by omega, by omega, by simp [szA], below_drewN' _ _⟩⟩
        case round =>
          obtain ⟨i, M, rfl, rfl, HI⟩ := hrel
          obtain ⟨i1, i2, i3, i4⟩ := HI.out
          clear HI c1 c2 c3
          have c3 := HC3.out _ i4
          have hsA : szA (ps.take i) ≤ 2 * 140737488351232 * i := by
            have := szA_bd (ps.take i) 140737488351232 (fun p hp => HP.out p (List.mem_of_mem_take hp))
            rw [List.length_take, show min i ps.length = i by have := HM.out; omega] at this
            exact this
          have hMb : M ≤ 15000000000000000 := by
            have := HB1.out
            have : 2 * 140737488351232 * i ≤ 2 * 140737488351232 * 40 := Nat.mul_le_mul_left _ i2
            omega
          by_cases hi : i < m ∧ i < 40
          · obtain ⟨hi1, hi2⟩ := hi
            have hi1' : (i : Int) < (m : Int) := by omega
            have hi2' : (i : Int) < 40 := by omega
            rcases HAL.out.below i4 with h0 | ⟨pb, po, rfl, plt, pcell⟩
            · have := HM.out; rw [h0] at this; simp at this; omega
            obtain ⟨d0, d1⟩ := pcell i (by have := HM.out; omega)
            have hsz := szA_succ ps i (by have := HM.out; omega)
            have hq := HP.out (ps.getD i ([], [])) (by rw [List.getD_eq_getElem?_getD, List.getElem?_eq_getElem (by have := HM.out; omega)]; exact List.getElem_mem _)
            clear pcell
            generalize ps.getD i ([], []) = q at *
            obtain ⟨q1, q2⟩ := q
            simp only at d0 d1 hsz hq
            have z1 := size_m' q1
            have z2 := size_m' q2
            generalize (⟨q1.toArray⟩ : ByteArray) = Q1 at *
            generalize (⟨q2.toArray⟩ : ByteArray) = Q2 at *
            obtain ⟨D, hD⟩ : ∃ D : Nat, Q1.size + Q2.size = D := ⟨_, rfl⟩
            obtain ⟨M1, hM1⟩ : ∃ M1 : Nat, M + D = M1 := ⟨_, rfl⟩
            have f1 : (Q1.size : Int) + (Q2.size : Int) = (D : Int) := by omega
            have f2 : (M : Int) + (D : Int) = (M1 : Int) := by omega
            have g1 : (Q1.size : Int) ≤ 140737488351232 := by omega
            have g2 : (Q2.size : Int) ≤ 140737488351232 := by omega
            have g3 : (D : Int) ≤ 1000000000000000 := by omega
            have g4 : (M1 : Int) ≤ 20000000000000000 := by omega
            have g5 : (M : Int) ≤ 15000000000000000 := by omega
            have HST := hide (show M1 = N1 + szA (ps.take (i + 1)) by omega)
            have I4 := hide i4
            clear hsz hq z1 z2 hD hM1 i3 i4 hsA hMb
            go_wp2_with fail
            go_quiet (fail)
            go_wp2_with fail
            go_roundw
            case rel => exact ⟨i + 1, M1, by go_num, rfl, hide ⟨by omega, by omega, HST.out, I4.out.trans (below_drewN' _ _ |>.mono I4.out.size)⟩⟩
            case measure => simp [RowKit.intOf]; omega
          · have hME : M = szL (ts.take (j + 1)) := by
              rw [HSZ.out, i3]
              congr 2
              by_cases h40 : i = 40
              · rw [h40]
              · have him : i = m := by omega
                rw [List.take_of_length_le (by have := HM.out; omega), List.take_of_length_le (by have := HM.out; omega)]
            have HME := hide hME
            have HMB := hide hMb
            have I4 := hide i4
            by_cases him : i < m
            · have h40 : i = 40 := by omega
              subst h40
              have him' : (40 : Int) < (m : Int) := by omega
              clear hME hMb i3 i4 hsA hi
              go_wp2_with fail
              go_roundw
              case rel => exact ⟨j + 1, M, by go_num, rfl, hide ⟨by omega, HME.out, by have := HMB.out; omega, J4.out.trans (I4.out.mono J4.out.size)⟩⟩
              case measure => simp [RowKit.intOf]; omega
            · have him' : ¬ (i : Int) < (m : Int) := by omega
              clear hME hMb i3 i4 hsA hi
              go_wp2_with fail
              go_roundw
              case rel => exact ⟨j + 1, M, by go_num, rfl, hide ⟨by omega, HME.out, by have := HMB.out; omega, J4.out.trans (I4.out.mono J4.out.size)⟩⟩
              case measure => simp [RowKit.intOf]; omega
      · have hN' : ¬ (N : Int) ≤ 20000 := by omega
        have hN2 : (20000 : Int) < (N : Int) := by omega
        have HE := hide (show LgG n ts w (.returned (.bool true)) wr from ⟨true, rfl, by simp, j4⟩)
        clear j2 j3 j4 hN
        go_wp2_with fail
        go_ret
        exact HE.out
    · have hj' : ¬ (j : Int) < (n : Int) := by omega
      have hjn : j = n := by omega
      rw [List.take_of_length_le (by have := HN.out; omega)] at j2
      by_cases hN : N ≤ 20000
      · have hN' : ¬ (20000 : Int) < (N : Int) := by omega
        by_cases h4 : n ≤ 400
        · have h4' : ¬ (400 : Int) < (n : Int) := by omega
          have HE := hide (show LgG n ts w (.returned (.bool false)) wr from ⟨false, rfl, fun _ => ⟨h4, by omega⟩, j4⟩)
          clear j2 j3 j4 hN h4 hjn
          go_wp2_with fail
          go_ret
          exact HE.out
        · have h4' : (400 : Int) < (n : Int) := by omega
          have HE := hide (show LgG n ts w (.returned (.bool true)) wr from ⟨true, rfl, by simp, j4⟩)
          clear j2 j3 j4 hN h4 hjn
          go_wp2_with fail
          go_ret
          exact HE.out
      · have hN2 : (20000 : Int) < (N : Int) := by omega
        have HE := hide (show LgG n ts w (.returned (.bool true)) wr from ⟨true, rfl, by simp, j4⟩)
        clear j2 j3 j4 hN hjn
        go_wp2_with fail
        go_ret
        exact HE.out
theorem own0 (W : World) : ARow (W.alloc (.cells #[] 47)) W.heap.size (.slice (some ⟨W.heap.size, 0, none⟩) 0 0) [] := by
  have k : Blk (W.alloc (.cells #[] 47)) W.heap.size #[] 47 := Blk.new W _ _
  unfold Blk at k
  exact ⟨rfl, Or.inr ⟨W.heap.size, 0, #[], rfl, Nat.le_refl _, k, by simp, by unfold maxLen; omega, by simp, by simp [flA]⟩⟩
theorem flA_cell {w : World} {b off : Nat} {ps : List At} (h : ∀ i, i < ps.length → w.cell? ⟨b, off + i * 2, none⟩ = some (.string ⟨(ps.getD i ([], [])).1.toArray⟩) ∧ w.cell? ⟨b, off + i * 2 + 1, none⟩ = some (.string ⟨(ps.getD i ([], [])).2.toArray⟩)) (j : Nat) (u : Value) (hu : (flA ps)[j]? = some u) : w.cell? ⟨b, off + j, none⟩ = some u := by
  have hj := (List.getElem?_eq_some_iff.1 hu).1
  rw [flA_len] at hj
  obtain ⟨h1, h2⟩ := h (j / 2) (by omega)
  have ha := flA_at ps (j / 2) (j % 2) (by omega) (by omega)
  rw [show j / 2 * 2 + j % 2 = j by omega, hu] at ha
  have hr : j % 2 = 0 ∨ j % 2 = 1 := by omega
  rcases hr with hr | hr
  · rw [hr] at ha
    rw [show off + j = off + j / 2 * 2 by omega, h1]
    simpa using ha.symm
  · rw [hr] at ha
    rw [show off + j = off + j / 2 * 2 + 1 by omega, h2]
    simpa using ha.symm
theorem flA_one (ps : List At) : ∀ u ∈ flA ps, u.oneCell' = true := by
  intro u hu
  unfold flA at hu
  rw [List.mem_flatMap] at hu
  obtain ⟨p, _, hp⟩ := hu
  exact acs_one p u hp
theorem app_ats (W : World) (aa : Option Addr) (n c H : Nat) (ps : List At) (hn : ps.length = n) (h : n ≤ 1000000) (hA : ALs W aa ps) (hH : W.heap.size = H) :
    ∃ a' c' w2, (Builtin.append_ #[43, 43] 43 #[.slice (some ⟨H, 0, none⟩) 0 0, .slice aa n c]).run Tryd.prog (W.alloc (.cells #[] 47)) = .ok (.slice a' n c') w2 ∧ ARow w2 H (.slice a' n c') ps ∧ Below W.heap.size W w2 := by
  subst hH
  obtain ⟨i0, hi, hz0, hz1, hz2⟩ := info_parts info_at
  rcases Nat.eq_zero_or_pos n with h0 | h0
  · subst h0
    obtain rfl : ps = [] := List.eq_nil_of_length_eq_zero hn
    have hs : Src Tryd.prog i0.size 43 (.slice aa 0 c) 0 [] (W.alloc (.cells #[] 47)) := by
      cases aa with
      | none => exact Src.ofNil _ Tryd.underlying43 c
      | some x => exact Src.ofSlice _ Tryd.underlying43 x 0 c [] (by simp) (by simp) (by simp)
    have hr := run_append_room_src (P := Tryd.prog) (W.alloc (.cells #[] 47)) 43 43 43 47 i0 Tryd.underlying43 hi W.heap.size 0 0 0 _ 0 [] hs (by omega) (by simp) (by simp)
    exact ⟨some ⟨W.heap.size, 0, none⟩, 0, W.alloc (.cells #[] 47), by simpa [World.setCells] using hr, own0 W, (Below.refl _ _).alloc (Nat.le_refl _) _⟩
  · rcases hA with hz' | ⟨b, off, rfl, hb, hcell⟩
    · rw [hz'] at hn; simp at hn; omega
    have hal := (Below.refl W.heap.size W).alloc (Nat.le_refl _) (.cells #[] 47)
    obtain ⟨gg, cap, w2, hr, ho, hg, hat, _⟩ := run_append_lies (P := Tryd.prog) (W.alloc (.cells #[] 47)) 43 43 W.heap.size 47 i0 _ 2 32 Tryd.underlying43 hi hz0 hz1 hz2 rfl (by decide) _ 0 [] (own0 W) ⟨b, off, none⟩ n c (flA ps) (by rw [flA_len, hn])
      (fun j u hu => by
        rw [Go.WideShapes.add_plain, World.cell?_alloc_lt _ _ _ hb]
        exact flA_cell hcell j u hu) (flA_one ps) h0 (by unfold maxLen; omega) (by omega) hal.size (W.heap.size + 1) (by simp)
    rw [Nat.zero_add] at hr ho
    rw [List.nil_append] at ho
    exact ⟨_, cap, w2, hr, by unfold ARow; rw [hn]; exact ho, hal.grown hg (by simp) fun k hk => by
      have : W.heap.size = k := by simpa [Value.ownBlock] using hk
      omega⟩
abbrev Gv := Tg × Value
abbrev gcs (p : Gv) : List Value := [.int .i64 p.1.k, .string ⟨p.1.x.toArray⟩, .string ⟨p.1.t.toArray⟩, p.2, .int .i64 p.1.a]
abbrev gk0 : Gv := (tg0, .slice none 0 0)
def flG (ps : List Gv) : List Value := ps.flatMap gcs
theorem flG_snoc (ps : List Gv) (x : Gv) : flG (ps ++ [x]) = flG ps ++ gcs x := by unfold flG; rw [List.flatMap_append]; simp
theorem flG_cons (x : Gv) (r : List Gv) : flG (x :: r) = gcs x ++ flG r := by unfold flG; rw [List.flatMap_cons]
theorem flG_at (ps : List Gv) : ∀ i j, i < ps.length → j < 5 → (flG ps)[i * 5 + j]? = (gcs (ps.getD i gk0))[j]? := by
  induction ps with
  | nil => intro i j h; simp at h
  | cons x r ih =>
    intro i j h hj
    rw [flG_cons]
    cases i with
    | zero => rw [List.getElem?_append_left (by simp; omega)]; simp
    | succ i =>
      rw [List.getElem?_append_right (by simp; omega)]
      have := ih i j (by simpa using h) hj
      simp only [List.length_cons, List.length_nil] at *
      rw [show (i + 1) * 5 + j - (0 + 1 + 1 + 1 + 1 + 1) = i * 5 + j by omega, this]
      simp
def GRow (w : World) (B : Nat) (v : Value) (ts : List Tg) : Prop := ∃ tv : List Gv, tv.map Prod.fst = ts ∧ w.ownsRow B 45 5 v tv.length (flG tv) ∧ ∀ p ∈ tv, ARow w 0 p.2 p.1.ps
theorem GRow.nil (w : World) (B : Nat) : GRow w B (.slice none 0 0) [] := ⟨[], rfl, World.ownsRow_nil _ _ _ _, by simp⟩
theorem GRow.below {w w' : World} {B : Nat} {v : Value} {ts : List Tg} (h : GRow w B v ts) (hb : Below w.heap.size w w') : GRow w' B v ts := by
  obtain ⟨tv, h1, h2, h3⟩ := h
  exact ⟨tv, h1, ownsRow_kc h2 (KC.of_below hb), fun p hp => (h3 p hp).below hb⟩
theorem GRow.lst {w : World} {B : Nat} {v : Value} {ts : List Tg} (h : GRow w B v ts) : ∃ a cap, v = .slice a ts.length cap ∧ GLs w a ts := by
  obtain ⟨tv, rfl, h2, h3⟩ := h
  have h' := h2
  obtain ⟨_, ⟨h0, hz⟩ | ⟨g, cap, cur, hv, hg, hh, hc, hm, _⟩⟩ := h'
  · obtain rfl : tv = [] := List.eq_nil_of_length_eq_zero hz
    exact ⟨none, 0, h0, Or.inl rfl⟩
  · refine ⟨_, cap, by rw [List.length_map]; exact hv, ?_⟩
    rw [hv] at h2
    refine Or.inr ⟨g, 0, rfl, heap_lt hh, fun i hi => ?_⟩
    rw [List.length_map] at hi
    have hge : (tv.map Prod.fst).getD i tg0 = (tv.getD i gk0).1 := by
      rw [List.getD_eq_getElem?_getD, List.getD_eq_getElem?_getD, List.getElem?_map, List.getElem?_eq_getElem hi]; rfl
    rw [hge]
    have hmem : tv.getD i gk0 ∈ tv := by rw [List.getD_eq_getElem?_getD, List.getElem?_eq_getElem hi]; exact List.getElem_mem _
    have hcell : ∀ j, j < 5 → w.cell? ⟨g, i * 5 + j, none⟩ = (gcs (tv.getD i gk0))[j]? := fun j hj => by
      rw [World.ownsRow.cellAt h2 (i * 5 + j) (by omega), flG_at tv i j hi hj]
    generalize tv.getD i gk0 = p at *
    obtain ⟨p1, p2⟩ := p
    obtain ⟨aa, ac, he, hA, hq1, hq2⟩ := (h3 _ hmem).lst
    simp only at he hA hq1
    subst he
    rw [Nat.zero_add]
    exact ⟨aa, ac, hcell 0 (by omega), hcell 1 (by omega), hcell 2 (by omega), hcell 3 (by omega), hcell 4 (by omega), hA, hq1, hq2⟩
theorem gcs_one (c : Gv) (h : ∃ a n k, c.2 = .slice a n k) : ∀ u ∈ gcs c, u.oneCell' = true := by
  obtain ⟨a, n, k, h⟩ := h
  intro u hu
  simp only [gcs, List.mem_cons, List.not_mem_nil, or_false] at hu
  rcases hu with rfl | rfl | rfl | rfl | rfl
  all_goals first | rfl | (rw [h]; rfl)
theorem app_gk {W : World} {B : Nat} {v va : Value} {ts : List Tg} (t : Tg) (H : Nat) (hH : W.heap.size = H) (h : GRow W B v ts) (ha : ARow W 0 va t.ps) (hB : B ≤ W.heap.size) (hl : ts.length ≤ 1048576) :
    ∃ v' w2, (Builtin.append_ #[23, 23] 23 #[v, .slice (some ⟨H, 0, none⟩) 1 1]).run Tryd.prog (W.alloc (.cells (gcs (t, va)).toArray 45)) = .ok v' w2 ∧ GRow w2 B v' (ts ++ [t]) ∧ Below B W w2 := by
  subst hH
  obtain ⟨i0, hi, hz0, hz1, hz2⟩ := info_parts info_tk
  obtain ⟨tv, rfl, h2, h3⟩ := h
  rw [List.length_map] at hl
  obtain ⟨aa, ac, hva, _⟩ := ha.lst
  obtain ⟨gg, cap, w2, hr, ho, hg, hat, _⟩ := run_append_lies (P := Tryd.prog) (W.alloc (.cells (gcs (t, va)).toArray 45)) 23 23 B 45 i0 _ 5 72 Tryd.underlying23 hi hz0 hz1 hz2 rfl (by decide) v tv.length (flG tv) (World.ownsRow.alloc h2 _) ⟨W.heap.size, 0, none⟩ 1 1 (gcs (t, va)) (by simp)
    (fun j u hu => by rw [Go.WideShapes.add_plain, Nat.zero_add, World.cell?_alloc_at _ _ _ _ rfl]; simpa using hu) (gcs_one _ ⟨_, _, _, hva⟩) (by decide) (by unfold maxLen; omega) (by omega) (by simp; omega) (W.heap.size + 1) (by simp)
  have hal := (Below.refl W.heap.size W).alloc (Nat.le_refl _) (.cells (gcs (t, va)).toArray 45)
  have hty : ∀ (k : Nat) (c : Array Value) (t : TypeId) (f : Nat × Nat), W.heap[k]? = some (Obj.cells c t f) → t ≠ 45 → w2.heap[k]? = some (Obj.cells c t f) := fun k c t f hc ht => by
    have hk := heap_lt hc
    rw [hg.block k (by simp; omega) (fun e => by
      obtain ⟨_, ⟨h0, _⟩ | ⟨g, cap, cur, hv, _, hh, _⟩⟩ := h2
      · rw [h0] at e; simp [Value.ownBlock] at e
      · rw [hv] at e
        have : k = g := by simpa [Value.ownBlock] using e
        subst this
        rw [hc] at hh
        injection hh with hh
        injection hh with _ e _
        exact ht e)]
    rw [hal.block k hk]; exact hc
  refine ⟨_, w2, hr, ⟨tv ++ [(t, va)], by simp, by rw [flG_snoc, List.length_append]; exact ho, fun p hp' => ?_⟩, ((Below.refl B W).alloc hB _).grown hg (by simp; omega) fun k hk' => (World.ownsRow.lt h2 k hk').1⟩
  rw [List.mem_append, List.mem_singleton] at hp'
  rcases hp' with hp' | rfl
  · exact (h3 p hp').ty hty
  · exact ha.ty hty
def CoG (n : Nat) (ts : List Tg) (w : World) (e : Ending) (w' : World) : Prop := ∃ a' c', e = .returned (.slice a' n c') ∧ GLs w' a' ts ∧ Below w.heap.size w w'
set_option maxHeartbeats 2000000 in
theorem rcopy_any (a : Option Addr) (n c : Nat) (ts : List Tg) (w : World) (hn : ts.length = n) (h1 : n ≤ 1000000) (hg : ∀ t ∈ ts, t.ps.length ≤ 1000000) (hL : GLs w a ts) :
    Calls Tryd.prog 14 #[.slice a n c] w (CoG n ts w) := by
  have h5 : (n : Int) ≤ 1000000 := by omega
  have HN := hide hn
  have HG := hide hg
  have HL := hide hL
  clear hn hg hL
  go_enter Tryd.func14, Tryd.ntmps14
  go_wp2_with fail
  go_loopw [3, 4] (fun vo vi wr => ∃ j : Nat, vi = .int .i64 j ∧ Hid (j ≤ n ∧ Below w.heap.size w wr ∧ GRow wr w.heap.size vo (ts.take j))) (fun _ vi _ => n - (RowKit.intOf vi).toNat)
  case atStart => exact ⟨0, rfl, hide ⟨by omega, Below.refl _ _, by simpa using GRow.nil _ _⟩⟩
  case round =>
    obtain ⟨j, rfl, HR⟩ := hrel
    obtain ⟨j1, j2, j3⟩ := HR.out
    clear HR
    have htl : (ts.take j).length = j := by rw [List.length_take]; have := HN.out; omega
    by_cases hj : j < n
    · have hj' : (j : Int) < (n : Int) := by omega
      rcases HL.out.below j2 with h0 | ⟨b, off, rfl, hlt, hcell⟩
      · have := HN.out; rw [h0] at this; simp at this; omega
      obtain ⟨aa, ac, c0, c1, c2, c3, c4, hal, hcap⟩ := hcell j (by have := HN.out; omega)
      have hmem : ts.getD j tg0 ∈ ts := by rw [List.getD_eq_getElem?_getD, List.getElem?_eq_getElem (by have := HN.out; omega)]; exact List.getElem_mem _
      have hps := HG.out _ hmem
      have htk : ts.take (j + 1) = ts.take j ++ [ts.getD j tg0] := by
        rw [List.take_succ_eq_append_getElem (by have := HN.out; omega), List.getD_eq_getElem?_getD, List.getElem?_eq_getElem (by have := HN.out; omega)]; rfl
      clear hcell hmem
      generalize ts.getD j tg0 = t at *
      obtain ⟨κ, x, tt, ps, ta⟩ := t
      simp only at c0 c1 c2 c3 c4 hal hcap hps
      obtain ⟨va, vc, hsh, _⟩ := j3.lst
      rw [htl] at hsh
      subst hsh
      obtain ⟨m, hm⟩ : ∃ m, ps.length = m := ⟨_, rfl⟩
      rw [hm] at c3 hps
      have hal0 := (Below.refl wr.heap.size wr).alloc (Nat.le_refl _) (.cells #[.int .i64 κ, .string ⟨x.toArray⟩, .string ⟨tt.toArray⟩, .slice aa m ac, .int .i64 ta] 45)
      have z1 : (wr.alloc (.cells #[.int .i64 κ, .string ⟨x.toArray⟩, .string ⟨tt.toArray⟩, .slice aa m ac, .int .i64 ta] 45)).heap.size = wr.heap.size + 1 := by simp
      have k0 := Blk.new wr #[.int .i64 κ, .string ⟨x.toArray⟩, .string ⟨tt.toArray⟩, .slice aa m ac, .int .i64 ta] 45
      obtain ⟨a', c', w1, hr, hrow, hb1⟩ := app_ats (wr.alloc (.cells #[.int .i64 κ, .string ⟨x.toArray⟩, .string ⟨tt.toArray⟩, .slice aa m ac, .int .i64 ta] 45)) aa m ac (wr.heap.size + 1) ps hm (by omega) (hal.below hal0) z1
      have k1 := k0.below hb1
      have k2 := k1.set 3 (.slice a' m c')
      simp at k2
      have hb2 : Below wr.heap.size wr (w1.setCell ⟨wr.heap.size, 3, none⟩ (.slice a' m c')) := (hal0.trans (hb1.mono hal0.size)).setCell (p := ⟨wr.heap.size, 3, none⟩) (Nat.le_refl _) _
      have hrow2 : ARow (w1.setCell ⟨wr.heap.size, 3, none⟩ (.slice a' m c')) 0 (.slice a' m c') ps := (hrow.set k1 (by decide) 3 _).lower (Nat.zero_le _)
      have hsz : (w1.setCell ⟨wr.heap.size, 3, none⟩ (.slice a' m c')).heap.size = w1.heap.size := by simp
      obtain ⟨v4, w4, hr4, hrow4, hb4⟩ := app_gk (va := .slice a' m c') ⟨κ, x, tt, ps, ta⟩ w1.heap.size hsz (j3.below hb2) hrow2 (Nat.le_trans j2.size hb2.size) (by rw [htl]; omega)
      have hwf : Below w.heap.size w w4 := (j2.trans (hb2.mono j2.size)).trans hb4
      rw [← htk] at hrow4
      obtain ⟨va4, vc4, hsh4, _⟩ := hrow4.lst
      obtain ⟨j9, hj9⟩ : ∃ j9, (ts.take (j + 1)).length = j9 := ⟨_, rfl⟩
      rw [hj9] at hsh4
      clear hj9
      subst hsh4
      obtain ⟨d0, d1, d2, d3, d4⟩ := cells5 k1
      have d5 := k1.frozen 3
      obtain ⟨e0, e1, e2, e3, e4⟩ := cells5 k2
      simp only [gcs] at hr4
      have HRU := hide hr
      have HR4 := hide hr4
      have HROW := hide hrow4
      have HWF := hide hwf
      clear hr hr4 hrow4 hwf k0 k1 k2 hb1 hb2 hrow hrow2 hb4 j2 j3 hal hcap hal0 htk htl hsz hm
      go_wp2_with (first
        | (at_builtin; refine Lib.wpList_append_run _ rfl _ _ _ _ rfl _ _ rfl rfl _ _ HRU.out ?_)
        | (at_builtin; refine Lib.wpList_append_run _ rfl _ _ _ _ rfl _ _ rfl rfl _ _ HR4.out ?_))
      go_roundw
      case rel => exact ⟨j + 1, by go_num, hide ⟨by omega, HWF.out, HROW.out⟩⟩
      case measure => simp [RowKit.intOf]; omega
    · have hj' : ¬ (j : Int) < (n : Int) := by omega
      obtain rfl : j = n := by omega
      rw [List.take_of_length_le (by have := HN.out; omega)] at j3
      obtain ⟨va, vc, hsh, hgl⟩ := j3.lst
      rw [HN.out] at hsh
      subst hsh
      have HE := hide (show CoG j ts w (.returned (.slice va j vc)) wr from ⟨va, vc, rfl, hgl, j2⟩)
      clear hgl j2 j3 htl
      go_wp2_with fail
      go_ret
      exact HE.out
end Go.Proofs.YtpmdekhjodhdmaaDoor.K17
