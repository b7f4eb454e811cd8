/-
  What the reference's Read answers where it reads.
-/
import Derived.Test.YtehcpnbbgjinfaaM9RRd
import Derived.Test.YtehcpnbbgjinfaaM9RRy
import Derived.Test.YtehcpnbbgjinfaaM9RG
namespace Go.Proofs.Ytehcpnbbgjinfaa
open Go.RowKit Go.Deep
set_option linter.unusedVariables false
set_option linter.unusedSimpArgs false

theorem rdv_inv {l : List Tab} {mx hd hh hx : ByteArray} (h : readV l = some (mx, hd, hh, hx)) : finV l maxpS = some mx ∧ finV l headS = some hd ∧ finV l hheaS = some hh ∧ finV l hmtxS = some hx ∧ allB mx hd hh hx = true := by
  unfold readV at h
  split at h
  · rename_i a b c d e1 e2 e3 e4
    split at h
    · rename_i hb
      simp only [Option.some.injEq, Prod.mk.injEq] at h
      obtain ⟨rfl, rfl, rfl, rfl⟩ := h
      exact ⟨e1, e2, e3, e4, hb⟩
    · cases h
  · cases h
theorem all_inv {mx hd hh hx : ByteArray} (h : allB mx hd hh hx = true) : 6 ≤ mx.size ∧ 54 ≤ hd.size ∧ 36 ≤ hh.size ∧ (sayB mx 0 halfS = true ∨ sayB mx 0 halfS = false ∧ sayB mx 0 verS = true) ∧ 1 ≤ nV mx ∧ nV mx ≤ 4096 ∧
    sayB hd 0 verS = true ∧ sayB hd 12 magicS = true ∧ 16 ≤ n2 hd.data.toList 18 ∧ n2 hd.data.toList 18 ≤ 16384 ∧ n2 hd.data.toList 50 ≤ 1 ∧ n2 hd.data.toList 52 = 0 ∧ sayB hh 0 verS = true ∧ n2 hh.data.toList 32 = 0 ∧ 1 ≤ hV hh ∧ hV hh ≤ nV mx ∧ 4 * hV hh + 2 * (nV mx - hV hh) ≤ hx.size := by
  unfold allB at h
  simp only [Bool.and_eq_true, decide_eq_true_eq] at h
  obtain ⟨⟨a1, a2⟩, ⟨b1, b2⟩, ⟨c1, c2⟩, d⟩ := h
  obtain ⟨p1, p2⟩ := mx_bd a2
  obtain ⟨p3, p4⟩ := hh_bd c2
  unfold mxB at a2
  unfold hdB at b2
  unfold hhB at c2
  simp only [Bool.and_eq_true, wiB_one, Bool.or_eq_true, decide_eq_true_eq, beq_iff_eq] at a2 b2 c2
  refine ⟨a1, b1, c1, ?_, p1, p2, b2.1.1.1.1, b2.1.1.1.2, by omega, by omega, by omega, by omega, c2.1.1, by omega, p3, p4, d⟩
  rcases a2.1 with h | h
  · exact Or.inl h
  · cases h0 : sayB mx 0 halfS
    · exact Or.inr ⟨rfl, h⟩
    · exact Or.inl rfl
def RyR (mx hd hh hx : ByteArray) (w : World) (e : Ending) (w' : World) : Prop :=
  ∃ a1 c1 a2 c2, e = .returned (.tuple #[mval mx hd hh (.slice a1 (nV mx) c1) (.slice a2 (nV mx) c2), .int .i64 0]) ∧
      Below w.heap.size w w' ∧ Lst w' a1 (advL hx (hV hh) (nV mx)) ∧ Lst w' a2 (beaL hx (hV hh) (nV mx))
set_option maxRecDepth 8000 in
set_option maxHeartbeats 16000000 in
theorem rrd_yes (a : Option Addr) (l : List Tab) (n c : Nat) (w : World) (hn : l.length = n) (hm : n ≤ 1073741824) (hd0 : ∀ x ∈ l, x.2.size ≤ 1073741824) (hL : TLst w a l) (mx hd hh hx : ByteArray) (hyes : readV l = some (mx, hd, hh, hx)) :
    Calls Try.prog 11 #[.slice a n c] w fun e w' => RyR mx hd hh hx w e w' := by
  obtain ⟨gmx, ghd, ghh, ghx, hall⟩ := rdv_inv hyes
  have hbw := (Below.refl w.heap.size w).alloc (Nat.le_refl _) (.cells zeroC 28)
  have hkv := Blk.new w zeroC 28
  obtain ⟨V, hV⟩ : ∃ V, w.alloc (.cells zeroC 28) = V := ⟨_, rfl⟩
  rw [hV] at hbw hkv
  have KV := hide hkv
  have HVV := hide hV
  clear hkv hV
  have CF0 := hide (rfind_any a l n c headS V hn hm (hL.below hbw))
  have CF1 := hide (rfind_any a l n c hheaS V hn hm (hL.below hbw))
  have CF2 := hide (rfind_any a l n c maxpS V hn hm (hL.below hbw))
  have CF3 := hide (rfind_any a l n c hmtxS V hn hm (hL.below hbw))
  rw [ghd] at CF0
  rw [ghh] at CF1
  rw [gmx] at CF2
  rw [ghx] at CF3
  simp only [fnR] at CF0 CF1 CF2 CF3
  have HB := hide hbw
  have ymx := fin_size hd0 gmx
  have yhd := fin_size hd0 ghd
  have yhh := fin_size hd0 ghh
  have yhx := fin_size hd0 ghx
  obtain ⟨zmx, zhd, zhh, hAB, n1, n2', qC, qD, v1, v2, v3, v4, qE, y4, h1, h2, h3⟩ := all_inv hall
  clear hbw hn hm hL hd0 hyes gmx ghd ghh ghx hall
  have zmx' : ¬ (mx.size : Int) < 6 := by omega
  have zhd' : ¬ (hd.size : Int) < 54 := by omega
  have zhh' : ¬ (hh.size : Int) < 36 := by omega
  have CN := hide (u2_let mx 4 (by omega) ymx)
  have CH := hide (u2_let hh 34 (by omega) yhh)
  have CU := hide (u2_let hd 18 (by omega) yhd)
  have CO := hide (u2_let hd 50 (by omega) yhd)
  have C52 := hide (u2_let hd 52 (by omega) yhd)
  have C32 := hide (u2_let hh 32 (by omega) yhh)
  have S4 := hide (s2_let hh 4 (by omega) yhh)
  have S6 := hide (s2_let hh 6 (by omega) yhh)
  have S8 := hide (s2_let hh 8 (by omega) yhh)
  have S36 := hide (s2_let hd 36 (by omega) yhd)
  have S38 := hide (s2_let hd 38 (by omega) yhd)
  have S40 := hide (s2_let hd 40 (by omega) yhd)
  have S42 := hide (s2_let hd 42 (by omega) yhd)
  have kmx : (4 : Int) ≤ (mx.size : Int) := by omega
  have khd : (16 : Int) ≤ (hd.size : Int) := by omega
  have khd4 : (4 : Int) ≤ (hd.size : Int) := by omega
  have khh : (4 : Int) ≤ (hh.size : Int) := by omega
  have lmx : (mx.size : Int) ≤ 1073741824 := by omega
  have lhd : (hd.size : Int) ≤ 1073741824 := by omega
  have lhh : (hh.size : Int) ≤ 1073741824 := by omega
  have lhx : (hx.size : Int) ≤ 1073741824 := by omega
  have P1 := hide (say4 mx halfS 0 [0, 0, 80, 0] (by decide) rfl)
  have P2 := hide (say4 mx verS 0 [0, 1, 0, 0] (by decide) rfl)
  have P3 := hide (say4 hd verS 0 [0, 1, 0, 0] (by decide) rfl)
  have P4 := hide (say4 hd magicS 12 [95, 15, 60, 245] (by decide) rfl)
  have P5 := hide (say4 hh verS 0 [0, 1, 0, 0] (by decide) rfl)
  have jC : ((hd.extract 0 4).toList == [0, 1, 0, 0]) = true := by have h := P3.out; rw [qC] at h; exact h.symm
  have iC : ((hd.extract 0 4).toList != [0, 1, 0, 0]) = false := by unfold bne; rw [jC]; rfl
  have jD : ((hd.extract 12 16).toList == [95, 15, 60, 245]) = true := by have h := P4.out; rw [qD] at h; exact h.symm
  have iD : ((hd.extract 12 16).toList != [95, 15, 60, 245]) = false := by unfold bne; rw [jD]; rfl
  have jE : ((hh.extract 0 4).toList == [0, 1, 0, 0]) = true := by have h := P5.out; rw [qE] at h; exact h.symm
  have iE : ((hh.extract 0 4).toList != [0, 1, 0, 0]) = false := by unfold bne; rw [jE]; rfl
  clear P3 P4 P5
  unfold nV at n1 n2' h2 h3
  unfold hV at h1 h2 h3
  have HMV : Hid (∀ va vb, mval mx hd hh va vb = .agg #[.int .i64 ((n2 hd.data.toList 18 : Nat) : Int), .int .i64 (s2 hh.data.toList 4), .int .i64 (s2 hh.data.toList 6), .int .i64 (s2 hh.data.toList 8),
    .int .i64 (s2 hd.data.toList 36), .int .i64 (s2 hd.data.toList 38), .int .i64 (s2 hd.data.toList 40), .int .i64 (s2 hd.data.toList 42), .bool (((n2 hd.data.toList 50 : Nat) : Int) == 1), va, vb]) := hide fun _ _ => rfl
  have HNV : Hid (nV mx = n2 mx.data.toList 4 ∧ hV hh = n2 hh.data.toList 34) := hide ⟨rfl, rfl⟩
  generalize s2 hh.data.toList 4 = sa at S4 HMV
  generalize s2 hh.data.toList 6 = sd at S6 HMV
  generalize s2 hh.data.toList 8 = sg at S8 HMV
  generalize s2 hd.data.toList 36 = s36 at S36 HMV
  generalize s2 hd.data.toList 38 = s38 at S38 HMV
  generalize s2 hd.data.toList 40 = s40 at S40 HMV
  generalize s2 hd.data.toList 42 = s42 at S42 HMV
  generalize n2 mx.data.toList 4 = N at CN n1 n2' h2 h3 HNV
  generalize n2 hh.data.toList 34 = H at CH h1 h2 h3 HNV
  generalize n2 hd.data.toList 18 = UU at CU v1 v2 HMV
  generalize n2 hd.data.toList 50 = OO at CO v3 HMV
  rw [v4] at C52
  rw [y4] at C32
  have zz0 : ((0 : Nat) : Int) = 0 := rfl
  rw [zz0] at C52 C32
  have n1' : ¬ (N : Int) < 1 := by omega
  have n3 : ¬ (4096 : Int) < (N : Int) := by omega
  have v1' : ¬ (UU : Int) < 16 := by omega
  have v2' : ¬ (16384 : Int) < (UU : Int) := by omega
  have v3' : ¬ (1 : Int) < (OO : Int) := by omega
  have h1' : ¬ (H : Int) < 1 := by omega
  have h2' : ¬ (N : Int) < (H : Int) := by omega
  have h3' : ¬ (hx.size : Int) < 4 * (H : Int) + 2 * ((N : Int) - (H : Int)) := by omega
  have bN' : (N : Int) ≤ 65535 := by omega
  have bH' : (H : Int) ≤ 65535 := by omega
  have bU' : (UU : Int) ≤ 65535 := by omega
  have bO' : (OO : Int) ≤ 65535 := by omega
  have HH := hide (And.intro h1 (And.intro h2 (And.intro h3 (And.intro n2' yhx))))
  clear v4 y4 qC qD qE zmx zhd zhh ymx yhd yhh yhx n1 n2' v1 v2 v3 h1 h2 h3 zz0
  rcases hAB with qA | ⟨qA, qB⟩
  · have jA : ((mx.extract 0 4).toList == [0, 0, 80, 0]) = true := by have h := P1.out; rw [qA] at h; exact h.symm
    have iA : ((mx.extract 0 4).toList != [0, 0, 80, 0]) = false := by unfold bne; rw [jA]; rfl
    clear P1 P2 qA
    go_enter Try.func11, Try.ntmps11
    go_wp2_with fail
    rw [HVV.out]
    refine CF0.out.mono ?_
    rintro e w1 ⟨rfl, hw⟩
    replace hw := hw.symm
    subst hw
    go_wp2_with fail
    refine CF1.out.mono ?_
    rintro e w1 ⟨rfl, hw⟩
    replace hw := hw.symm
    subst hw
    go_wp2_with fail
    refine CF2.out.mono ?_
    rintro e w1 ⟨rfl, hw⟩
    replace hw := hw.symm
    subst hw
    go_wp2_with fail
    refine CF3.out.mono ?_
    rintro e w1 ⟨rfl, hw⟩
    replace hw := hw.symm
    subst hw
    go_wp2_with fail
    refine (CN.out _).mono ?_
    rintro e w1 ⟨rfl, m, hw⟩
    have kvn : Blk w1 w.heap.size zeroC 28 := by rw [hw]; exact KV.out.drewN m
    have hbn : Below w.heap.size w w1 := by rw [hw]; exact below_drewN HB.out m
    replace KV := hide kvn
    replace HB := hide hbn
    clear hw kvn hbn
    go_wp2_with fail
    refine (CH.out _).mono ?_
    rintro e w1 ⟨rfl, m, hw⟩
    have kvn : Blk w1 w.heap.size zeroC 28 := by rw [hw]; exact KV.out.drewN m
    have hbn : Below w.heap.size w w1 := by rw [hw]; exact below_drewN HB.out m
    replace KV := hide kvn
    replace HB := hide hbn
    clear hw kvn hbn
    go_wp2_with fail
    refine (CU.out _).mono ?_
    rintro e w1 ⟨rfl, m, hw⟩
    have kvn : Blk w1 w.heap.size zeroC 28 := by rw [hw]; exact KV.out.drewN m
    have hbn : Below w.heap.size w w1 := by rw [hw]; exact below_drewN HB.out m
    replace KV := hide kvn
    replace HB := hide hbn
    clear hw kvn hbn
    go_wp2_with fail
    refine (CO.out _).mono ?_
    rintro e w1 ⟨rfl, m, hw⟩
    have kvn : Blk w1 w.heap.size zeroC 28 := by rw [hw]; exact KV.out.drewN m
    have hbn : Below w.heap.size w w1 := by rw [hw]; exact below_drewN HB.out m
    replace KV := hide kvn
    replace HB := hide hbn
    clear hw kvn hbn
    go_wp2_with fail
    refine (C52.out _).mono ?_
    rintro e w1 ⟨rfl, m, hw⟩
    have kvn : Blk w1 w.heap.size zeroC 28 := by rw [hw]; exact KV.out.drewN m
    have hbn : Below w.heap.size w w1 := by rw [hw]; exact below_drewN HB.out m
    replace KV := hide kvn
    replace HB := hide hbn
    clear hw kvn hbn
    go_wp2_with fail
    refine (C32.out _).mono ?_
    rintro e w1 ⟨rfl, m, hw⟩
    have kvn : Blk w1 w.heap.size zeroC 28 := by rw [hw]; exact KV.out.drewN m
    have hbn : Below w.heap.size w w1 := by rw [hw]; exact below_drewN HB.out m
    replace KV := hide kvn
    replace HB := hide hbn
    clear hw kvn hbn
    go_wp2_with fail
    refine (S4.out _).mono ?_
    rintro e w1 ⟨rfl, m, hw⟩
    have kvn : Blk w1 w.heap.size zeroC 28 := by rw [hw]; exact KV.out.drewN m
    have hbn : Below w.heap.size w w1 := by rw [hw]; exact below_drewN HB.out m
    replace KV := hide kvn
    replace HB := hide hbn
    clear hw kvn hbn
    go_wp2_with fail
    refine (S6.out _).mono ?_
    rintro e w1 ⟨rfl, m, hw⟩
    have kvn : Blk w1 w.heap.size zeroC 28 := by rw [hw]; exact KV.out.drewN m
    have hbn : Below w.heap.size w w1 := by rw [hw]; exact below_drewN HB.out m
    replace KV := hide kvn
    replace HB := hide hbn
    clear hw kvn hbn
    go_wp2_with fail
    refine (S8.out _).mono ?_
    rintro e w1 ⟨rfl, m, hw⟩
    have kvn : Blk w1 w.heap.size zeroC 28 := by rw [hw]; exact KV.out.drewN m
    have hbn : Below w.heap.size w w1 := by rw [hw]; exact below_drewN HB.out m
    replace KV := hide kvn
    replace HB := hide hbn
    clear hw kvn hbn
    go_wp2_with fail
    have hal := (Below.refl w1.heap.size w1).alloc (Nat.le_refl _) (.cells #[.int .i64 (UU : Int), .int .i64 sa, .int .i64 sd, .int .i64 sg, .int .i64 0, .int .i64 0, .int .i64 0, .int .i64 0, .bool ((OO : Int) == 1), .slice none 0 0, .slice none 0 0] 28)
    have hky := Blk.new w1 #[.int .i64 (UU : Int), .int .i64 sa, .int .i64 sd, .int .i64 sg, .int .i64 0, .int .i64 0, .int .i64 0, .int .i64 0, .bool ((OO : Int) == 1), .slice none 0 0, .slice none 0 0] 28
    have hkr := KV.out.below hal
    have hbb := below_t5 HB.out hal
    have hry : Hid (w.heap.size ≠ w1.heap.size ∧ w.heap.size ≤ w1.heap.size) := hide ⟨by have := KV.out.lt; omega, HB.out.size⟩
    generalize w1.alloc (.cells #[.int .i64 (UU : Int), .int .i64 sa, .int .i64 sd, .int .i64 sg, .int .i64 0, .int .i64 0, .int .i64 0, .int .i64 0, .bool ((OO : Int) == 1), .slice none 0 0, .slice none 0 0] 28) = W0 at hky hkr hbb ⊢
    generalize w1.heap.size = y at hky hry ⊢
    clear hal KV HB
    have KY := hide hky
    have KR := hide hkr
    have HB := hide hbb
    clear hky hkr hbb
    refine wp_loop_rounds 5 ?_
    rw [rounds_succ]
    go_wp2_with fail
    refine (S36.out _).mono ?_
    rintro e w1 ⟨rfl, m, hw⟩
    have hky : Blk w1 y #[.int .i64 (UU : Int), .int .i64 sa, .int .i64 sd, .int .i64 sg, .int .i64 0, .int .i64 0, .int .i64 0, .int .i64 0, .bool ((OO : Int) == 1), .slice none 0 0, .slice none 0 0] 28 := by rw [hw]; exact KY.out.drewN m
    have hkr : Blk w1 w.heap.size zeroC 28 := by rw [hw]; exact KR.out.drewN m
    have hbb : Below w.heap.size w w1 := by rw [hw]; exact below_drewN HB.out m
    clear hw KY KR HB
    have c4 := hky.cell 4
    have f4 := hky.frozen 4
    have clt := hky.lt
    simp at c4
    have hbt := But.setCell y w1 4 (.int .i64 s36)
    have hky2 := Blk.set hky 4 (.int .i64 s36)
    simp at hky2
    have KY := hide hky2
    have KR := hide (hbt.blk hkr hry.out.1)
    have HB := hide (hbt.below hbb hry.out.2)
    clear hbt hky2 hky hkr hbb
    go_wp2_with fail
    clear c4 f4 clt
    generalize w1.setCell ⟨y, 4, none⟩ (.int .i64 s36) = W1 at KY KR HB ⊢
    rw [rounds_succ]
    go_wp2_with fail
    refine (S38.out _).mono ?_
    rintro e w1 ⟨rfl, m, hw⟩
    have hky : Blk w1 y #[.int .i64 (UU : Int), .int .i64 sa, .int .i64 sd, .int .i64 sg, .int .i64 s36, .int .i64 0, .int .i64 0, .int .i64 0, .bool ((OO : Int) == 1), .slice none 0 0, .slice none 0 0] 28 := by rw [hw]; exact KY.out.drewN m
    have hkr : Blk w1 w.heap.size zeroC 28 := by rw [hw]; exact KR.out.drewN m
    have hbb : Below w.heap.size w w1 := by rw [hw]; exact below_drewN HB.out m
    clear hw KY KR HB
    have c5 := hky.cell 5
    have f5 := hky.frozen 5
    have clt := hky.lt
    simp at c5
    have hbt := But.setCell y w1 5 (.int .i64 s38)
    have hky2 := Blk.set hky 5 (.int .i64 s38)
    simp at hky2
    have KY := hide hky2
    have KR := hide (hbt.blk hkr hry.out.1)
    have HB := hide (hbt.below hbb hry.out.2)
    clear hbt hky2 hky hkr hbb
    go_wp2_with fail
    clear c5 f5 clt
    generalize w1.setCell ⟨y, 5, none⟩ (.int .i64 s38) = W2 at KY KR HB ⊢
    rw [rounds_succ]
    go_wp2_with fail
    refine (S40.out _).mono ?_
    rintro e w1 ⟨rfl, m, hw⟩
    have hky : Blk w1 y #[.int .i64 (UU : Int), .int .i64 sa, .int .i64 sd, .int .i64 sg, .int .i64 s36, .int .i64 s38, .int .i64 0, .int .i64 0, .bool ((OO : Int) == 1), .slice none 0 0, .slice none 0 0] 28 := by rw [hw]; exact KY.out.drewN m
    have hkr : Blk w1 w.heap.size zeroC 28 := by rw [hw]; exact KR.out.drewN m
    have hbb : Below w.heap.size w w1 := by rw [hw]; exact below_drewN HB.out m
    clear hw KY KR HB
    have c6 := hky.cell 6
    have f6 := hky.frozen 6
    have clt := hky.lt
    simp at c6
    have hbt := But.setCell y w1 6 (.int .i64 s40)
    have hky2 := Blk.set hky 6 (.int .i64 s40)
    simp at hky2
    have KY := hide hky2
    have KR := hide (hbt.blk hkr hry.out.1)
    have HB := hide (hbt.below hbb hry.out.2)
    clear hbt hky2 hky hkr hbb
    go_wp2_with fail
    clear c6 f6 clt
    generalize w1.setCell ⟨y, 6, none⟩ (.int .i64 s40) = W3 at KY KR HB ⊢
    rw [rounds_succ]
    go_wp2_with fail
    refine (S42.out _).mono ?_
    rintro e w1 ⟨rfl, m, hw⟩
    have hky : Blk w1 y #[.int .i64 (UU : Int), .int .i64 sa, .int .i64 sd, .int .i64 sg, .int .i64 s36, .int .i64 s38, .int .i64 s40, .int .i64 0, .bool ((OO : Int) == 1), .slice none 0 0, .slice none 0 0] 28 := by rw [hw]; exact KY.out.drewN m
    have hkr : Blk w1 w.heap.size zeroC 28 := by rw [hw]; exact KR.out.drewN m
    have hbb : Below w.heap.size w w1 := by rw [hw]; exact below_drewN HB.out m
    clear hw KY KR HB
    have c7 := hky.cell 7
    have f7 := hky.frozen 7
    have clt := hky.lt
    simp at c7
    have hbt := But.setCell y w1 7 (.int .i64 s42)
    have hky2 := Blk.set hky 7 (.int .i64 s42)
    simp at hky2
    have KY := hide hky2
    have KR := hide (hbt.blk hkr hry.out.1)
    have HB := hide (hbt.below hbb hry.out.2)
    clear hbt hky2 hky hkr hbb
    go_wp2_with fail
    clear c7 f7 clt
    generalize w1.setCell ⟨y, 7, none⟩ (.int .i64 s42) = W4 at KY KR HB ⊢
    rw [rounds_succ]
    go_wp2_with fail
    have hA1 : (advL hx H N).length = N := by simp [advL]
    have hA2 : (beaL hx H N).length = N := by simp [beaL]
    have HLP : Hid (Lp w (advL hx H N) (beaL hx H N) w.heap.size y W4.heap.size (fun va vb => #[.int .i64 (UU : Int), .int .i64 sa, .int .i64 sd, .int .i64 sg, .int .i64 s36, .int .i64 s38, .int .i64 s40, .int .i64 s42, .bool ((OO : Int) == 1), va, vb]) 0 0 (.slice none 0 0) (.slice none 0 0) W4) := hide ⟨KR.out, KY.out, IRow.nil _ _, IRow.nil _ _, fun g hg => by simp [Value.ownBlock] at hg, HB.out, KY.out.lt, KR.out.lt, hry.out.1, Nat.le_refl _, HB.out.size, Nat.le_refl _, hry.out.2⟩
    obtain ⟨YF, hYF⟩ : ∃ YF : Value → Value → Array Value, (fun va vb => #[.int .i64 (UU : Int), .int .i64 sa, .int .i64 sd, .int .i64 sg, .int .i64 s36, .int .i64 s38, .int .i64 s40, .int .i64 s42, .bool ((OO : Int) == 1), va, vb]) = YF := ⟨_, rfl⟩
    have HY9 : Hid (∀ a b c, (YF a b).setIfInBounds 9 c = YF c b) := hide (by subst hYF; intro a b c; simp)
    have HY10 : Hid (∀ a b c, (YF a b).setIfInBounds 10 c = YF a c) := hide (by subst hYF; intro a b c; simp)
    have HG9 : Hid (∀ a b, (YF a b)[9]? = some a) := hide (by subst hYF; intro a b; rfl)
    have HG10 : Hid (∀ a b, (YF a b)[10]? = some b) := hide (by subst hYF; intro a b; rfl)
    have HYF := hide hYF
    rw [hYF] at HLP
    generalize hBB : W4.heap.size = BB at HLP
    clear hBB hYF KR KY HB S4 S6 S8 S36 S38 S40 S42 CN CH CU CO C52 C32
    have HA := hide (And.intro hA1 hA2)
    clear hA1 hA2 jA iA jC iC jD iD jE iE
    generalize Value.tuple #[.string hd, .bool true] = zt1
    generalize Value.tuple #[.string hh, .bool true] = zt2
    generalize Value.tuple #[.string mx, .bool true] = zt3
    generalize Value.tuple #[.string hx, .bool true] = zt4
    generalize Value.agg #[.int .i64 (UU : Int), .int .i64 sa, .int .i64 sd, .int .i64 sg, .int .i64 0, .int .i64 0, .int .i64 0, .int .i64 0, .bool ((OO : Int) == 1), .slice none 0 0, .slice none 0 0] = zt5
    try generalize Value.bool (decide ((H : Int) < 1)) = zb1
    try generalize Value.bool (decide ((H : Int) < 1) || decide ((hx.size : Int) < 4 * (H : Int) + 2 * ((N : Int) - (H : Int)))) = zb2
    try generalize Value.bool (decide ((hx.size : Int) < 4 * (H : Int) + 2 * ((N : Int) - (H : Int)))) = zb3
    try generalize Value.int .i64 (4 * (H : Int) + 2 * ((N : Int) - (H : Int))) = zb4
    try generalize Value.int .i64 (2 * ((N : Int) - (H : Int))) = zb5
    try generalize Value.int .i64 ((N : Int) - (H : Int)) = zb6
    try generalize Value.int .i64 (4 * (H : Int)) = zb7
    try generalize Value.bool ((OO : Int) == 1) = zb8
    generalize Value.bool true = zb9
    generalize Value.bool false = zb10
    generalize Value.string hd = zs1
    generalize Value.string hh = zs2
    generalize Value.string mx = zs3
    generalize Value.slice a n c = zs4
    generalize Value.int .i64 (UU : Int) = zs5
    generalize Value.int .i64 (OO : Int) = zs6
    generalize Value.int .i64 sa = zs7
    generalize Value.int .i64 sd = zs8
    generalize Value.int .i64 sg = zs9
    clear lmx lhd lhh kmx khd khd4 khh bU' bO' zmx' zhd' zhh' v1' v2' v3'
    go_loopw [18] (fun vi wr => ∃ (k : Nat) (v1 v2 : Value), vi = .int .i64 k ∧ k ≤ N ∧ Hid (Lp w (advL hx H N) (beaL hx H N) w.heap.size y BB YF k k v1 v2 wr)) (fun vi _ => N - (intOf vi).toNat)
    case atStart => exact ⟨0, _, _, rfl, by omega, HLP⟩
    case round =>
      clear HLP
      obtain ⟨k, v1, v2, rfl, hkN, HL⟩ := hrel
      have c9 := HL.out.ky.cell 9
      have c10 := HL.out.ky.cell 10
      rw [HG9.out] at c9
      rw [HG10.out] at c10
      have ylt := HL.out.ky.lt
      by_cases hlt : k < N
      case neg =>
        have hkn : N = k := by omega
        subst hkn
        have hlt' : ¬ (N : Int) < (N : Int) := by omega
        have hr1 := HL.out.r1
        have hr2 := HL.out.r2
        rw [List.take_of_length_le (by rw [HA.out.1]; exact Nat.le_refl _)] at hr1
        rw [List.take_of_length_le (by rw [HA.out.2]; exact Nat.le_refl _)] at hr2
        have HR1 := hide hr1
        have HR2 := hide hr2
        obtain ⟨a1, c1, e1, -⟩ := hr1.lst
        obtain ⟨a2, c2, e2, -⟩ := hr2.lst
        rw [HA.out.1] at e1
        rw [HA.out.2] at e2
        subst e1 e2
        have ky := HL.out.ky
        rw [← HYF.out] at ky
        have x0 := ky.cell 0
        have z0 := HL.out.kr.cell 0
        have y0 := HL.out.kr.frozen 0
        have x1 := ky.cell 1
        have z1 := HL.out.kr.cell 1
        have y1 := HL.out.kr.frozen 1
        have x2 := ky.cell 2
        have z2 := HL.out.kr.cell 2
        have y2 := HL.out.kr.frozen 2
        have x3 := ky.cell 3
        have z3 := HL.out.kr.cell 3
        have y3 := HL.out.kr.frozen 3
        have x4 := ky.cell 4
        have z4 := HL.out.kr.cell 4
        have y4 := HL.out.kr.frozen 4
        have x5 := ky.cell 5
        have z5 := HL.out.kr.cell 5
        have y5 := HL.out.kr.frozen 5
        have x6 := ky.cell 6
        have z6 := HL.out.kr.cell 6
        have y6 := HL.out.kr.frozen 6
        have x7 := ky.cell 7
        have z7 := HL.out.kr.cell 7
        have y7 := HL.out.kr.frozen 7
        have x8 := ky.cell 8
        have z8 := HL.out.kr.cell 8
        have y8 := HL.out.kr.frozen 8
        have x9 := ky.cell 9
        have z9 := HL.out.kr.cell 9
        have y9 := HL.out.kr.frozen 9
        have x10 := ky.cell 10
        have z10 := HL.out.kr.cell 10
        have y10 := HL.out.kr.frozen 10
        simp at x0 z0 x1 z1 x2 z2 x3 z3 x4 z4 x5 z5 x6 z6 x7 z7 x8 z8 x9 z9 x10 z10
        have zlt := HL.out.kr.lt
        have hne := hry.out.1
        clear hr1 hr2 ky c9 c10 hlt
        go_wp2_with fail
        have hst := store11 HL.out.kr (.int .i64 (UU : Int)) (.int .i64 sa) (.int .i64 sd) (.int .i64 sg) (.int .i64 s36) (.int .i64 s38) (.int .i64 s40) (.int .i64 s42) (.bool ((OO : Int) == 1)) (.slice a1 N c1) (.slice a2 N c2)
        have hbe := hst.2.below HL.out.bl (Nat.le_refl _)
        clear x0 z0 y0 x1 z1 y1 x2 z2 y2 x3 z3 y3 x4 z4 y4 x5 z5 y5 x6 z6 y6 x7 z7 y7 x8 z8 y8 x9 z9 y9 x10 z10 y10 zlt
        generalize (((((((((((wr.setCell ⟨w.heap.size, 0, none⟩ (.int .i64 (UU : Int))).setCell ⟨w.heap.size, 1, none⟩ (.int .i64 sa)).setCell ⟨w.heap.size, 2, none⟩ (.int .i64 sd)).setCell ⟨w.heap.size, 3, none⟩ (.int .i64 sg)).setCell ⟨w.heap.size, 4, none⟩ (.int .i64 s36)).setCell ⟨w.heap.size, 5, none⟩ (.int .i64 s38)).setCell ⟨w.heap.size, 6, none⟩ (.int .i64 s40)).setCell ⟨w.heap.size, 7, none⟩ (.int .i64 s42)).setCell ⟨w.heap.size, 8, none⟩ (.bool ((OO : Int) == 1))).setCell ⟨w.heap.size, 9, none⟩ (.slice a1 N c1)).setCell ⟨w.heap.size, 10, none⟩ (.slice a2 N c2)) = ZZ at hst hbe ⊢
        have q0 := hst.1.cell 0
        have q1 := hst.1.cell 1
        have q2 := hst.1.cell 2
        have q3 := hst.1.cell 3
        have q4 := hst.1.cell 4
        have q5 := hst.1.cell 5
        have q6 := hst.1.cell 6
        have q7 := hst.1.cell 7
        have q8 := hst.1.cell 8
        have q9 := hst.1.cell 9
        have q10 := hst.1.cell 10
        simp at q0 q1 q2 q3 q4 q5 q6 q7 q8 q9 q10
        have l1 : IRow ZZ BB (.slice a1 N c1) (advL hx H N) := HR1.out.kept fun g hg hl => hst.2.block g hl (by have := (HR1.out.own g hg).1; have := HL.out.rb; omega)
        have l2 : IRow ZZ BB (.slice a2 N c2) (beaL hx H N) := HR2.out.kept fun g hg hl => hst.2.block g hl (by have := (HR2.out.own g hg).1; have := HL.out.rb; omega)
        obtain ⟨b1, d1, f1, m1⟩ := l1.lst
        obtain ⟨b2, d2, f2, m2⟩ := l2.lst
        simp only [Value.slice.injEq] at f1 f2
        obtain ⟨rfl, -, rfl⟩ := f1
        obtain ⟨rfl, -, rfl⟩ := f2
        refine bodyPost_ret (v := .tuple #[mval mx hd hh (.slice a1 (nV mx) c1) (.slice a2 (nV mx) c2), .int .i64 0]) (by simp [results, Try.results11, go_sem, HMV.out, HNV.out.1, q0, q1, q2, q3, q4, q5, q6, q7, q8, q9, q10]) rfl ⟨a1, c1, a2, c2, rfl, hbe, ?_, ?_⟩
        · rw [HNV.out.1, HNV.out.2]; exact m1.1
        · rw [HNV.out.1, HNV.out.2]; exact m2.1
      have hlt' : (k : Int) < (N : Int) := by omega
      have hk0 : (0 : Int) ≤ (k : Int) := by omega
      obtain ⟨X1, hX1⟩ : ∃ X, advF hx H k = X := ⟨_, rfl⟩
      obtain ⟨X2, hX2⟩ : ∃ X, beaF hx H k = X := ⟨_, rfl⟩
      have G1 : Hid ((advL hx H N).getD k 0 = X1) := hide (by rw [← hX1]; simp [advL, List.getD_eq_getElem?_getD, hlt])
      have G2 : Hid ((beaL hx H N).getD k 0 = X2) := hide (by rw [← hX2]; simp [beaL, List.getD_eq_getElem?_getD, hlt])
      have HK1 : Hid (k < (advL hx H N).length ∧ (advL hx H N).length ≤ 5000) := hide (by have := HH.out; have := HA.out; omega)
      have HK2 : Hid (k < (beaL hx H N).length ∧ (beaL hx H N).length ≤ 5000) := hide (by have := HH.out; have := HA.out; omega)
      by_cases hkH : k < H
      · have hkH' : (k : Int) < (H : Int) := by omega
        have CA : Hid (∀ x, Calls Try.prog 28 #[.string hx, .int .i64 (4 * (k : Int))] x fun e w' => e = .returned (.int .i64 X1) ∧ ∃ n, w' = x.drewN n) := hide fun x => by
          have h := ru2_any hx (4 * k) (4 * (k : Int)) x (by omega) (by have := HH.out; omega) HH.out.2.2.2.2
          rw [← hX1]; unfold advF; rw [if_pos hkH]; exact h
        have CB : Hid (∀ x, Calls Try.prog 29 #[.string hx, .int .i64 (4 * (k : Int) + 2)] x fun e w' => e = .returned (.int .i64 X2) ∧ ∃ n, w' = x.drewN n) := hide fun x => by
          have h := rs2_any hx (4 * k + 2) (4 * (k : Int) + 2) x (by omega) (by have := HH.out; omega) HH.out.2.2.2.2
          rw [← hX2]; unfold beaF; rw [if_pos hkH]; exact h
        have hw1 : IntKind.i64.wrap (4 * (k : Int)) = 4 * (k : Int) := by rw [IntKind.wrap_i64]; omega
        have hw2 : IntKind.i64.wrap (4 * (k : Int) + 2) = 4 * (k : Int) + 2 := by rw [IntKind.wrap_i64]; omega
        clear hX1 hX2 hlt hkH
        go_wp2_with fail
        rename_i k0
        have HKK1 := hide k0
        clear k0
        go_region_law ((first | (go_simp; go_at_call 28; refine (CA.out _).mono ?_; rintro e wy ⟨rfl, m, hw⟩; have hLy := Lp.same HL.out (u := wy) (by rw [hw]; first | exact below_drewN' _ m | exact below_t5 (below_drewN' _ _) (below_drewN' _ m) | exact below_t5 (Below.refl _ _).drew (below_drewN' _ m)); clear hw; obtain ⟨g, cap, w4, hr, hk4, hl4⟩ := Lp.app1 hLy X1 HK1.out.1 HK1.out.2 G1.out HY9.out; have HR := hide hr; have q9 := hLy.ky.cell 9; rw [HG9.out] at q9; have hszy := hLy.ky.lt; have HQ := hide (hk4.cell 9); have HZ := hide (hk4.frozen 9); have HT := hide hk4.lt; have HL4 := hide hl4; clear hLy hr hk4 hl4) | (refine step_append_run _ (by rfl) _ _ _ _ rfl _ _ (by rfl) (by rfl) _ _ HR.out ?_; clear q9; have q9 := HQ.out; rw [HG9.out] at q9; have z9 := HZ.out; have t9 := HT.out)))
        all_goals
          refine HKK1.out _ _ ?_
          clear HKK1 q9 z9 t9 HQ HZ HT HR
          generalize w4.setCell ⟨y, 9, none⟩ (.slice (some ⟨g, 0, none⟩) (k + 1) cap) = wa at HL4 ⊢
          generalize (.slice (some ⟨g, 0, none⟩) (k + 1) cap : Value) = v1n at HL4 ⊢
          have HLa := HL4
          clear HL4
          have c9 := HLa.out.ky.cell 9
          have c10 := HLa.out.ky.cell 10
          rw [HG9.out] at c9
          rw [HG10.out] at c10
          have ylt := HLa.out.ky.lt
          clear HL
          go_wp2_with fail
          go_region_law ((first | (go_simp; go_at_call 29; refine (CB.out _).mono ?_; rintro e wy ⟨rfl, m, hw⟩; have hLy := Lp.same HLa.out (u := wy) (by rw [hw]; first | exact below_drewN' _ m | exact below_t5 (below_drewN' _ _) (below_drewN' _ m) | exact below_t5 (Below.refl _ _).drew (below_drewN' _ m)); clear hw; obtain ⟨g, cap, w4, hr, hk4, hl4⟩ := Lp.app2 hLy X2 HK2.out.1 HK2.out.2 G2.out HY10.out; have HR := hide hr; have q9 := hLy.ky.cell 10; rw [HG10.out] at q9; have hszy := hLy.ky.lt; have HQ := hide (hk4.cell 10); have HZ := hide (hk4.frozen 10); have HT := hide hk4.lt; have HL4 := hide hl4; clear hLy hr hk4 hl4) | (refine step_append_run _ (by rfl) _ _ _ _ rfl _ _ (by rfl) (by rfl) _ _ HR.out ?_; clear q9; have q9 := HQ.out; rw [HG10.out] at q9; have z9 := HZ.out; have t9 := HT.out)))
          all_goals
            clear q9 z9 t9 HQ HZ HT HR
            generalize w4.setCell ⟨y, 10, none⟩ (.slice (some ⟨g, 0, none⟩) (k + 1) cap) = wb at HL4 ⊢
            generalize (.slice (some ⟨g, 0, none⟩) (k + 1) cap : Value) = v2n at HL4 ⊢
            have HLb := HL4
            clear HL4
            have c9 := HLb.out.ky.cell 9
            have c10 := HLb.out.ky.cell 10
            rw [HG9.out] at c9
            rw [HG10.out] at c10
            have ylt := HLb.out.ky.lt
            clear HLa
            go_wp2_with fail
            go_roundw
            case rel => exact ⟨k + 1, _, _, by go_num, by omega, HLb⟩
            case measure => simp [intOf]; omega
      · have hkH' : ¬ (k : Int) < (H : Int) := by omega
        have CA : Hid (∀ x, Calls Try.prog 28 #[.string hx, .int .i64 (4 * (H : Int) - 4)] x fun e w' => e = .returned (.int .i64 X1) ∧ ∃ n, w' = x.drewN n) := hide fun x => by
          have h := ru2_any hx (4 * H - 4) (4 * (H : Int) - 4) x (by omega) (by have := HH.out; omega) HH.out.2.2.2.2
          rw [← hX1]; unfold advF; rw [if_neg hkH]; exact h
        have CB : Hid (∀ x, Calls Try.prog 29 #[.string hx, .int .i64 (4 * (H : Int) + 2 * ((k : Int) - (H : Int)))] x fun e w' => e = .returned (.int .i64 X2) ∧ ∃ n, w' = x.drewN n) := hide fun x => by
          have h := rs2_any hx (4 * H + 2 * (k - H)) (4 * (H : Int) + 2 * ((k : Int) - (H : Int))) x (by omega) (by have := HH.out; omega) HH.out.2.2.2.2
          rw [← hX2]; unfold beaF; rw [if_neg hkH]; exact h
        have hw1 : IntKind.i64.wrap (4 * (H : Int)) = 4 * (H : Int) := by rw [IntKind.wrap_i64]; omega
        have hw2 : IntKind.i64.wrap (4 * (H : Int) - 4) = 4 * (H : Int) - 4 := by rw [IntKind.wrap_i64]; omega
        have hw3 : IntKind.i64.wrap ((k : Int) - (H : Int)) = (k : Int) - (H : Int) := by rw [IntKind.wrap_i64]; omega
        have hw4 : IntKind.i64.wrap (2 * ((k : Int) - (H : Int))) = 2 * ((k : Int) - (H : Int)) := by rw [IntKind.wrap_i64]; omega
        have hw5 : IntKind.i64.wrap (4 * (H : Int) + 2 * ((k : Int) - (H : Int))) = 4 * (H : Int) + 2 * ((k : Int) - (H : Int)) := by rw [IntKind.wrap_i64]; omega
        clear hX1 hX2 hlt hkH
        go_wp2_with fail
        rename_i k0
        have HKK1 := hide k0
        clear k0
        go_region_law ((first | (go_simp; go_at_call 28; refine (CA.out _).mono ?_; rintro e wy ⟨rfl, m, hw⟩; have hLy := Lp.same HL.out (u := wy) (by rw [hw]; first | exact below_drewN' _ m | exact below_t5 (below_drewN' _ _) (below_drewN' _ m) | exact below_t5 (Below.refl _ _).drew (below_drewN' _ m)); clear hw; obtain ⟨g, cap, w4, hr, hk4, hl4⟩ := Lp.app1 hLy X1 HK1.out.1 HK1.out.2 G1.out HY9.out; have HR := hide hr; have q9 := hLy.ky.cell 9; rw [HG9.out] at q9; have hszy := hLy.ky.lt; have HQ := hide (hk4.cell 9); have HZ := hide (hk4.frozen 9); have HT := hide hk4.lt; have HL4 := hide hl4; clear hLy hr hk4 hl4) | (refine step_append_run _ (by rfl) _ _ _ _ rfl _ _ (by rfl) (by rfl) _ _ HR.out ?_; clear q9; have q9 := HQ.out; rw [HG9.out] at q9; have z9 := HZ.out; have t9 := HT.out)))
        all_goals
          refine HKK1.out _ _ ?_
          clear HKK1 q9 z9 t9 HQ HZ HT HR
          generalize w4.setCell ⟨y, 9, none⟩ (.slice (some ⟨g, 0, none⟩) (k + 1) cap) = wa at HL4 ⊢
          generalize (.slice (some ⟨g, 0, none⟩) (k + 1) cap : Value) = v1n at HL4 ⊢
          have HLa := HL4
          clear HL4
          have c9 := HLa.out.ky.cell 9
          have c10 := HLa.out.ky.cell 10
          rw [HG9.out] at c9
          rw [HG10.out] at c10
          have ylt := HLa.out.ky.lt
          clear HL
          go_wp2_with fail
          go_region_law ((first | (go_simp; go_at_call 29; refine (CB.out _).mono ?_; rintro e wy ⟨rfl, m, hw⟩; have hLy := Lp.same HLa.out (u := wy) (by rw [hw]; first | exact below_drewN' _ m | exact below_t5 (below_drewN' _ _) (below_drewN' _ m) | exact below_t5 (Below.refl _ _).drew (below_drewN' _ m)); clear hw; obtain ⟨g, cap, w4, hr, hk4, hl4⟩ := Lp.app2 hLy X2 HK2.out.1 HK2.out.2 G2.out HY10.out; have HR := hide hr; have q9 := hLy.ky.cell 10; rw [HG10.out] at q9; have hszy := hLy.ky.lt; have HQ := hide (hk4.cell 10); have HZ := hide (hk4.frozen 10); have HT := hide hk4.lt; have HL4 := hide hl4; clear hLy hr hk4 hl4) | (refine step_append_run _ (by rfl) _ _ _ _ rfl _ _ (by rfl) (by rfl) _ _ HR.out ?_; clear q9; have q9 := HQ.out; rw [HG10.out] at q9; have z9 := HZ.out; have t9 := HT.out)))
          all_goals
            clear q9 z9 t9 HQ HZ HT HR
            generalize w4.setCell ⟨y, 10, none⟩ (.slice (some ⟨g, 0, none⟩) (k + 1) cap) = wb at HL4 ⊢
            generalize (.slice (some ⟨g, 0, none⟩) (k + 1) cap : Value) = v2n at HL4 ⊢
            have HLb := HL4
            clear HL4
            have c9 := HLb.out.ky.cell 9
            have c10 := HLb.out.ky.cell 10
            rw [HG9.out] at c9
            rw [HG10.out] at c10
            have ylt := HLb.out.ky.lt
            clear HLa
            go_wp2_with fail
            go_roundw
            case rel => exact ⟨k + 1, _, _, by go_num, by omega, HLb⟩
            case measure => simp [intOf]; omega
  · have jA : ((mx.extract 0 4).toList == [0, 0, 80, 0]) = false := by have h := P1.out; rw [qA] at h; exact h.symm
    have iA : ((mx.extract 0 4).toList != [0, 0, 80, 0]) = true := by unfold bne; rw [jA]; rfl
    have jB : ((mx.extract 0 4).toList == [0, 1, 0, 0]) = true := by have h := P2.out; rw [qB] at h; exact h.symm
    have iB : ((mx.extract 0 4).toList != [0, 1, 0, 0]) = false := by unfold bne; rw [jB]; rfl
    clear P1 P2 qA qB
    go_enter Try.func11, Try.ntmps11
    go_wp2_with fail
    rw [HVV.out]
    refine CF0.out.mono ?_
    rintro e w1 ⟨rfl, hw⟩
    replace hw := hw.symm
    subst hw
    go_wp2_with fail
    refine CF1.out.mono ?_
    rintro e w1 ⟨rfl, hw⟩
    replace hw := hw.symm
    subst hw
    go_wp2_with fail
    refine CF2.out.mono ?_
    rintro e w1 ⟨rfl, hw⟩
    replace hw := hw.symm
    subst hw
    go_wp2_with fail
    refine CF3.out.mono ?_
    rintro e w1 ⟨rfl, hw⟩
    replace hw := hw.symm
    subst hw
    go_wp2_with fail
    refine (CN.out _).mono ?_
    rintro e w1 ⟨rfl, m, hw⟩
    have kvn : Blk w1 w.heap.size zeroC 28 := by rw [hw]; exact KV.out.drewN m
    have hbn : Below w.heap.size w w1 := by rw [hw]; exact below_drewN HB.out m
    replace KV := hide kvn
    replace HB := hide hbn
    clear hw kvn hbn
    go_wp2_with fail
    refine (CH.out _).mono ?_
    rintro e w1 ⟨rfl, m, hw⟩
    have kvn : Blk w1 w.heap.size zeroC 28 := by rw [hw]; exact KV.out.drewN m
    have hbn : Below w.heap.size w w1 := by rw [hw]; exact below_drewN HB.out m
    replace KV := hide kvn
    replace HB := hide hbn
    clear hw kvn hbn
    go_wp2_with fail
    refine (CU.out _).mono ?_
    rintro e w1 ⟨rfl, m, hw⟩
    have kvn : Blk w1 w.heap.size zeroC 28 := by rw [hw]; exact KV.out.drewN m
    have hbn : Below w.heap.size w w1 := by rw [hw]; exact below_drewN HB.out m
    replace KV := hide kvn
    replace HB := hide hbn
    clear hw kvn hbn
    go_wp2_with fail
    refine (CO.out _).mono ?_
    rintro e w1 ⟨rfl, m, hw⟩
    have kvn : Blk w1 w.heap.size zeroC 28 := by rw [hw]; exact KV.out.drewN m
    have hbn : Below w.heap.size w w1 := by rw [hw]; exact below_drewN HB.out m
    replace KV := hide kvn
    replace HB := hide hbn
    clear hw kvn hbn
    go_wp2_with fail
    refine (C52.out _).mono ?_
    rintro e w1 ⟨rfl, m, hw⟩
    have kvn : Blk w1 w.heap.size zeroC 28 := by rw [hw]; exact KV.out.drewN m
    have hbn : Below w.heap.size w w1 := by rw [hw]; exact below_drewN HB.out m
    replace KV := hide kvn
    replace HB := hide hbn
    clear hw kvn hbn
    go_wp2_with fail
    refine (C32.out _).mono ?_
    rintro e w1 ⟨rfl, m, hw⟩
    have kvn : Blk w1 w.heap.size zeroC 28 := by rw [hw]; exact KV.out.drewN m
    have hbn : Below w.heap.size w w1 := by rw [hw]; exact below_drewN HB.out m
    replace KV := hide kvn
    replace HB := hide hbn
    clear hw kvn hbn
    go_wp2_with fail
    refine (S4.out _).mono ?_
    rintro e w1 ⟨rfl, m, hw⟩
    have kvn : Blk w1 w.heap.size zeroC 28 := by rw [hw]; exact KV.out.drewN m
    have hbn : Below w.heap.size w w1 := by rw [hw]; exact below_drewN HB.out m
    replace KV := hide kvn
    replace HB := hide hbn
    clear hw kvn hbn
    go_wp2_with fail
    refine (S6.out _).mono ?_
    rintro e w1 ⟨rfl, m, hw⟩
    have kvn : Blk w1 w.heap.size zeroC 28 := by rw [hw]; exact KV.out.drewN m
    have hbn : Below w.heap.size w w1 := by rw [hw]; exact below_drewN HB.out m
    replace KV := hide kvn
    replace HB := hide hbn
    clear hw kvn hbn
    go_wp2_with fail
    refine (S8.out _).mono ?_
    rintro e w1 ⟨rfl, m, hw⟩
    have kvn : Blk w1 w.heap.size zeroC 28 := by rw [hw]; exact KV.out.drewN m
    have hbn : Below w.heap.size w w1 := by rw [hw]; exact below_drewN HB.out m
    replace KV := hide kvn
    replace HB := hide hbn
    clear hw kvn hbn
    go_wp2_with fail
    have hal := (Below.refl w1.heap.size w1).alloc (Nat.le_refl _) (.cells #[.int .i64 (UU : Int), .int .i64 sa, .int .i64 sd, .int .i64 sg, .int .i64 0, .int .i64 0, .int .i64 0, .int .i64 0, .bool ((OO : Int) == 1), .slice none 0 0, .slice none 0 0] 28)
    have hky := Blk.new w1 #[.int .i64 (UU : Int), .int .i64 sa, .int .i64 sd, .int .i64 sg, .int .i64 0, .int .i64 0, .int .i64 0, .int .i64 0, .bool ((OO : Int) == 1), .slice none 0 0, .slice none 0 0] 28
    have hkr := KV.out.below hal
    have hbb := below_t5 HB.out hal
    have hry : Hid (w.heap.size ≠ w1.heap.size ∧ w.heap.size ≤ w1.heap.size) := hide ⟨by have := KV.out.lt; omega, HB.out.size⟩
    generalize w1.alloc (.cells #[.int .i64 (UU : Int), .int .i64 sa, .int .i64 sd, .int .i64 sg, .int .i64 0, .int .i64 0, .int .i64 0, .int .i64 0, .bool ((OO : Int) == 1), .slice none 0 0, .slice none 0 0] 28) = W0 at hky hkr hbb ⊢
    generalize w1.heap.size = y at hky hry ⊢
    clear hal KV HB
    have KY := hide hky
    have KR := hide hkr
    have HB := hide hbb
    clear hky hkr hbb
    refine wp_loop_rounds 5 ?_
    rw [rounds_succ]
    go_wp2_with fail
    refine (S36.out _).mono ?_
    rintro e w1 ⟨rfl, m, hw⟩
    have hky : Blk w1 y #[.int .i64 (UU : Int), .int .i64 sa, .int .i64 sd, .int .i64 sg, .int .i64 0, .int .i64 0, .int .i64 0, .int .i64 0, .bool ((OO : Int) == 1), .slice none 0 0, .slice none 0 0] 28 := by rw [hw]; exact KY.out.drewN m
    have hkr : Blk w1 w.heap.size zeroC 28 := by rw [hw]; exact KR.out.drewN m
    have hbb : Below w.heap.size w w1 := by rw [hw]; exact below_drewN HB.out m
    clear hw KY KR HB
    have c4 := hky.cell 4
    have f4 := hky.frozen 4
    have clt := hky.lt
    simp at c4
    have hbt := But.setCell y w1 4 (.int .i64 s36)
    have hky2 := Blk.set hky 4 (.int .i64 s36)
    simp at hky2
    have KY := hide hky2
    have KR := hide (hbt.blk hkr hry.out.1)
    have HB := hide (hbt.below hbb hry.out.2)
    clear hbt hky2 hky hkr hbb
    go_wp2_with fail
    clear c4 f4 clt
    generalize w1.setCell ⟨y, 4, none⟩ (.int .i64 s36) = W1 at KY KR HB ⊢
    rw [rounds_succ]
    go_wp2_with fail
    refine (S38.out _).mono ?_
    rintro e w1 ⟨rfl, m, hw⟩
    have hky : Blk w1 y #[.int .i64 (UU : Int), .int .i64 sa, .int .i64 sd, .int .i64 sg, .int .i64 s36, .int .i64 0, .int .i64 0, .int .i64 0, .bool ((OO : Int) == 1), .slice none 0 0, .slice none 0 0] 28 := by rw [hw]; exact KY.out.drewN m
    have hkr : Blk w1 w.heap.size zeroC 28 := by rw [hw]; exact KR.out.drewN m
    have hbb : Below w.heap.size w w1 := by rw [hw]; exact below_drewN HB.out m
    clear hw KY KR HB
    have c5 := hky.cell 5
    have f5 := hky.frozen 5
    have clt := hky.lt
    simp at c5
    have hbt := But.setCell y w1 5 (.int .i64 s38)
    have hky2 := Blk.set hky 5 (.int .i64 s38)
    simp at hky2
    have KY := hide hky2
    have KR := hide (hbt.blk hkr hry.out.1)
    have HB := hide (hbt.below hbb hry.out.2)
    clear hbt hky2 hky hkr hbb
    go_wp2_with fail
    clear c5 f5 clt
    generalize w1.setCell ⟨y, 5, none⟩ (.int .i64 s38) = W2 at KY KR HB ⊢
    rw [rounds_succ]
    go_wp2_with fail
    refine (S40.out _).mono ?_
    rintro e w1 ⟨rfl, m, hw⟩
    have hky : Blk w1 y #[.int .i64 (UU : Int), .int .i64 sa, .int .i64 sd, .int .i64 sg, .int .i64 s36, .int .i64 s38, .int .i64 0, .int .i64 0, .bool ((OO : Int) == 1), .slice none 0 0, .slice none 0 0] 28 := by rw [hw]; exact KY.out.drewN m
    have hkr : Blk w1 w.heap.size zeroC 28 := by rw [hw]; exact KR.out.drewN m
    have hbb : Below w.heap.size w w1 := by rw [hw]; exact below_drewN HB.out m
    clear hw KY KR HB
    have c6 := hky.cell 6
    have f6 := hky.frozen 6
    have clt := hky.lt
    simp at c6
    have hbt := But.setCell y w1 6 (.int .i64 s40)
    have hky2 := Blk.set hky 6 (.int .i64 s40)
    simp at hky2
    have KY := hide hky2
    have KR := hide (hbt.blk hkr hry.out.1)
    have HB := hide (hbt.below hbb hry.out.2)
    clear hbt hky2 hky hkr hbb
    go_wp2_with fail
    clear c6 f6 clt
    generalize w1.setCell ⟨y, 6, none⟩ (.int .i64 s40) = W3 at KY KR HB ⊢
    rw [rounds_succ]
    go_wp2_with fail
    refine (S42.out _).mono ?_
    rintro e w1 ⟨rfl, m, hw⟩
    have hky : Blk w1 y #[.int .i64 (UU : Int), .int .i64 sa, .int .i64 sd, .int .i64 sg, .int .i64 s36, .int .i64 s38, .int .i64 s40, .int .i64 0, .bool ((OO : Int) == 1), .slice none 0 0, .slice none 0 0] 28 := by rw [hw]; exact KY.out.drewN m
    have hkr : Blk w1 w.heap.size zeroC 28 := by rw [hw]; exact KR.out.drewN m
    have hbb : Below w.heap.size w w1 := by rw [hw]; exact below_drewN HB.out m
    clear hw KY KR HB
    have c7 := hky.cell 7
    have f7 := hky.frozen 7
    have clt := hky.lt
    simp at c7
    have hbt := But.setCell y w1 7 (.int .i64 s42)
    have hky2 := Blk.set hky 7 (.int .i64 s42)
    simp at hky2
    have KY := hide hky2
    have KR := hide (hbt.blk hkr hry.out.1)
    have HB := hide (hbt.below hbb hry.out.2)
    clear hbt hky2 hky hkr hbb
    go_wp2_with fail
    clear c7 f7 clt
    generalize w1.setCell ⟨y, 7, none⟩ (.int .i64 s42) = W4 at KY KR HB ⊢
    rw [rounds_succ]
    go_wp2_with fail
    have hA1 : (advL hx H N).length = N := by simp [advL]
    have hA2 : (beaL hx H N).length = N := by simp [beaL]
    have HLP : Hid (Lp w (advL hx H N) (beaL hx H N) w.heap.size y W4.heap.size (fun va vb => #[.int .i64 (UU : Int), .int .i64 sa, .int .i64 sd, .int .i64 sg, .int .i64 s36, .int .i64 s38, .int .i64 s40, .int .i64 s42, .bool ((OO : Int) == 1), va, vb]) 0 0 (.slice none 0 0) (.slice none 0 0) W4) := hide ⟨KR.out, KY.out, IRow.nil _ _, IRow.nil _ _, fun g hg => by simp [Value.ownBlock] at hg, HB.out, KY.out.lt, KR.out.lt, hry.out.1, Nat.le_refl _, HB.out.size, Nat.le_refl _, hry.out.2⟩
    obtain ⟨YF, hYF⟩ : ∃ YF : Value → Value → Array Value, (fun va vb => #[.int .i64 (UU : Int), .int .i64 sa, .int .i64 sd, .int .i64 sg, .int .i64 s36, .int .i64 s38, .int .i64 s40, .int .i64 s42, .bool ((OO : Int) == 1), va, vb]) = YF := ⟨_, rfl⟩
    have HY9 : Hid (∀ a b c, (YF a b).setIfInBounds 9 c = YF c b) := hide (by subst hYF; intro a b c; simp)
    have HY10 : Hid (∀ a b c, (YF a b).setIfInBounds 10 c = YF a c) := hide (by subst hYF; intro a b c; simp)
    have HG9 : Hid (∀ a b, (YF a b)[9]? = some a) := hide (by subst hYF; intro a b; rfl)
    have HG10 : Hid (∀ a b, (YF a b)[10]? = some b) := hide (by subst hYF; intro a b; rfl)
    have HYF := hide hYF
    rw [hYF] at HLP
    generalize hBB : W4.heap.size = BB at HLP
    clear hBB hYF KR KY HB S4 S6 S8 S36 S38 S40 S42 CN CH CU CO C52 C32
    have HA := hide (And.intro hA1 hA2)
    clear hA1 hA2 jA iA jC iC jD iD jE iE
    generalize Value.tuple #[.string hd, .bool true] = zt1
    generalize Value.tuple #[.string hh, .bool true] = zt2
    generalize Value.tuple #[.string mx, .bool true] = zt3
    generalize Value.tuple #[.string hx, .bool true] = zt4
    generalize Value.agg #[.int .i64 (UU : Int), .int .i64 sa, .int .i64 sd, .int .i64 sg, .int .i64 0, .int .i64 0, .int .i64 0, .int .i64 0, .bool ((OO : Int) == 1), .slice none 0 0, .slice none 0 0] = zt5
    try generalize Value.bool (decide ((H : Int) < 1)) = zb1
    try generalize Value.bool (decide ((H : Int) < 1) || decide ((hx.size : Int) < 4 * (H : Int) + 2 * ((N : Int) - (H : Int)))) = zb2
    try generalize Value.bool (decide ((hx.size : Int) < 4 * (H : Int) + 2 * ((N : Int) - (H : Int)))) = zb3
    try generalize Value.int .i64 (4 * (H : Int) + 2 * ((N : Int) - (H : Int))) = zb4
    try generalize Value.int .i64 (2 * ((N : Int) - (H : Int))) = zb5
    try generalize Value.int .i64 ((N : Int) - (H : Int)) = zb6
    try generalize Value.int .i64 (4 * (H : Int)) = zb7
    try generalize Value.bool ((OO : Int) == 1) = zb8
    generalize Value.bool true = zb9
    generalize Value.bool false = zb10
    generalize Value.string hd = zs1
    generalize Value.string hh = zs2
    generalize Value.string mx = zs3
    generalize Value.slice a n c = zs4
    generalize Value.int .i64 (UU : Int) = zs5
    generalize Value.int .i64 (OO : Int) = zs6
    generalize Value.int .i64 sa = zs7
    generalize Value.int .i64 sd = zs8
    generalize Value.int .i64 sg = zs9
    clear lmx lhd lhh kmx khd khd4 khh bU' bO' zmx' zhd' zhh' v1' v2' v3'
    go_loopw [18] (fun vi wr => ∃ (k : Nat) (v1 v2 : Value), vi = .int .i64 k ∧ k ≤ N ∧ Hid (Lp w (advL hx H N) (beaL hx H N) w.heap.size y BB YF k k v1 v2 wr)) (fun vi _ => N - (intOf vi).toNat)
    case atStart => exact ⟨0, _, _, rfl, by omega, HLP⟩
    case round =>
      clear HLP
      obtain ⟨k, v1, v2, rfl, hkN, HL⟩ := hrel
      have c9 := HL.out.ky.cell 9
      have c10 := HL.out.ky.cell 10
      rw [HG9.out] at c9
      rw [HG10.out] at c10
      have ylt := HL.out.ky.lt
      by_cases hlt : k < N
      case neg =>
        have hkn : N = k := by omega
        subst hkn
        have hlt' : ¬ (N : Int) < (N : Int) := by omega
        have hr1 := HL.out.r1
        have hr2 := HL.out.r2
        rw [List.take_of_length_le (by rw [HA.out.1]; exact Nat.le_refl _)] at hr1
        rw [List.take_of_length_le (by rw [HA.out.2]; exact Nat.le_refl _)] at hr2
        have HR1 := hide hr1
        have HR2 := hide hr2
        obtain ⟨a1, c1, e1, -⟩ := hr1.lst
        obtain ⟨a2, c2, e2, -⟩ := hr2.lst
        rw [HA.out.1] at e1
        rw [HA.out.2] at e2
        subst e1 e2
        have ky := HL.out.ky
        rw [← HYF.out] at ky
        have x0 := ky.cell 0
        have z0 := HL.out.kr.cell 0
        have y0 := HL.out.kr.frozen 0
        have x1 := ky.cell 1
        have z1 := HL.out.kr.cell 1
        have y1 := HL.out.kr.frozen 1
        have x2 := ky.cell 2
        have z2 := HL.out.kr.cell 2
        have y2 := HL.out.kr.frozen 2
        have x3 := ky.cell 3
        have z3 := HL.out.kr.cell 3
        have y3 := HL.out.kr.frozen 3
        have x4 := ky.cell 4
        have z4 := HL.out.kr.cell 4
        have y4 := HL.out.kr.frozen 4
        have x5 := ky.cell 5
        have z5 := HL.out.kr.cell 5
        have y5 := HL.out.kr.frozen 5
        have x6 := ky.cell 6
        have z6 := HL.out.kr.cell 6
        have y6 := HL.out.kr.frozen 6
        have x7 := ky.cell 7
        have z7 := HL.out.kr.cell 7
        have y7 := HL.out.kr.frozen 7
        have x8 := ky.cell 8
        have z8 := HL.out.kr.cell 8
        have y8 := HL.out.kr.frozen 8
        have x9 := ky.cell 9
        have z9 := HL.out.kr.cell 9
        have y9 := HL.out.kr.frozen 9
        have x10 := ky.cell 10
        have z10 := HL.out.kr.cell 10
        have y10 := HL.out.kr.frozen 10
        simp at x0 z0 x1 z1 x2 z2 x3 z3 x4 z4 x5 z5 x6 z6 x7 z7 x8 z8 x9 z9 x10 z10
        have zlt := HL.out.kr.lt
        have hne := hry.out.1
        clear hr1 hr2 ky c9 c10 hlt
        go_wp2_with fail
        have hst := store11 HL.out.kr (.int .i64 (UU : Int)) (.int .i64 sa) (.int .i64 sd) (.int .i64 sg) (.int .i64 s36) (.int .i64 s38) (.int .i64 s40) (.int .i64 s42) (.bool ((OO : Int) == 1)) (.slice a1 N c1) (.slice a2 N c2)
        have hbe := hst.2.below HL.out.bl (Nat.le_refl _)
        clear x0 z0 y0 x1 z1 y1 x2 z2 y2 x3 z3 y3 x4 z4 y4 x5 z5 y5 x6 z6 y6 x7 z7 y7 x8 z8 y8 x9 z9 y9 x10 z10 y10 zlt
        generalize (((((((((((wr.setCell ⟨w.heap.size, 0, none⟩ (.int .i64 (UU : Int))).setCell ⟨w.heap.size, 1, none⟩ (.int .i64 sa)).setCell ⟨w.heap.size, 2, none⟩ (.int .i64 sd)).setCell ⟨w.heap.size, 3, none⟩ (.int .i64 sg)).setCell ⟨w.heap.size, 4, none⟩ (.int .i64 s36)).setCell ⟨w.heap.size, 5, none⟩ (.int .i64 s38)).setCell ⟨w.heap.size, 6, none⟩ (.int .i64 s40)).setCell ⟨w.heap.size, 7, none⟩ (.int .i64 s42)).setCell ⟨w.heap.size, 8, none⟩ (.bool ((OO : Int) == 1))).setCell ⟨w.heap.size, 9, none⟩ (.slice a1 N c1)).setCell ⟨w.heap.size, 10, none⟩ (.slice a2 N c2)) = ZZ at hst hbe ⊢
        have q0 := hst.1.cell 0
        have q1 := hst.1.cell 1
        have q2 := hst.1.cell 2
        have q3 := hst.1.cell 3
        have q4 := hst.1.cell 4
        have q5 := hst.1.cell 5
        have q6 := hst.1.cell 6
        have q7 := hst.1.cell 7
        have q8 := hst.1.cell 8
        have q9 := hst.1.cell 9
        have q10 := hst.1.cell 10
        simp at q0 q1 q2 q3 q4 q5 q6 q7 q8 q9 q10
        have l1 : IRow ZZ BB (.slice a1 N c1) (advL hx H N) := HR1.out.kept fun g hg hl => hst.2.block g hl (by have := (HR1.out.own g hg).1; have := HL.out.rb; omega)
        have l2 : IRow ZZ BB (.slice a2 N c2) (beaL hx H N) := HR2.out.kept fun g hg hl => hst.2.block g hl (by have := (HR2.out.own g hg).1; have := HL.out.rb; omega)
        obtain ⟨b1, d1, f1, m1⟩ := l1.lst
        obtain ⟨b2, d2, f2, m2⟩ := l2.lst
        simp only [Value.slice.injEq] at f1 f2
        obtain ⟨rfl, -, rfl⟩ := f1
        obtain ⟨rfl, -, rfl⟩ := f2
        refine bodyPost_ret (v := .tuple #[mval mx hd hh (.slice a1 (nV mx) c1) (.slice a2 (nV mx) c2), .int .i64 0]) (by simp [results, Try.results11, go_sem, HMV.out, HNV.out.1, q0, q1, q2, q3, q4, q5, q6, q7, q8, q9, q10]) rfl ⟨a1, c1, a2, c2, rfl, hbe, ?_, ?_⟩
        · rw [HNV.out.1, HNV.out.2]; exact m1.1
        · rw [HNV.out.1, HNV.out.2]; exact m2.1
      have hlt' : (k : Int) < (N : Int) := by omega
      have hk0 : (0 : Int) ≤ (k : Int) := by omega
      obtain ⟨X1, hX1⟩ : ∃ X, advF hx H k = X := ⟨_, rfl⟩
      obtain ⟨X2, hX2⟩ : ∃ X, beaF hx H k = X := ⟨_, rfl⟩
      have G1 : Hid ((advL hx H N).getD k 0 = X1) := hide (by rw [← hX1]; simp [advL, List.getD_eq_getElem?_getD, hlt])
      have G2 : Hid ((beaL hx H N).getD k 0 = X2) := hide (by rw [← hX2]; simp [beaL, List.getD_eq_getElem?_getD, hlt])
      have HK1 : Hid (k < (advL hx H N).length ∧ (advL hx H N).length ≤ 5000) := hide (by have := HH.out; have := HA.out; omega)
      have HK2 : Hid (k < (beaL hx H N).length ∧ (beaL hx H N).length ≤ 5000) := hide (by have := HH.out; have := HA.out; omega)
      by_cases hkH : k < H
      · have hkH' : (k : Int) < (H : Int) := by omega
        have CA : Hid (∀ x, Calls Try.prog 28 #[.string hx, .int .i64 (4 * (k : Int))] x fun e w' => e = .returned (.int .i64 X1) ∧ ∃ n, w' = x.drewN n) := hide fun x => by
          have h := ru2_any hx (4 * k) (4 * (k : Int)) x (by omega) (by have := HH.out; omega) HH.out.2.2.2.2
          rw [← hX1]; unfold advF; rw [if_pos hkH]; exact h
        have CB : Hid (∀ x, Calls Try.prog 29 #[.string hx, .int .i64 (4 * (k : Int) + 2)] x fun e w' => e = .returned (.int .i64 X2) ∧ ∃ n, w' = x.drewN n) := hide fun x => by
          have h := rs2_any hx (4 * k + 2) (4 * (k : Int) + 2) x (by omega) (by have := HH.out; omega) HH.out.2.2.2.2
          rw [← hX2]; unfold beaF; rw [if_pos hkH]; exact h
        have hw1 : IntKind.i64.wrap (4 * (k : Int)) = 4 * (k : Int) := by rw [IntKind.wrap_i64]; omega
        have hw2 : IntKind.i64.wrap (4 * (k : Int) + 2) = 4 * (k : Int) + 2 := by rw [IntKind.wrap_i64]; omega
        clear hX1 hX2 hlt hkH
        go_wp2_with fail
        rename_i k0
        have HKK1 := hide k0
        clear k0
        go_region_law ((first | (go_simp; go_at_call 28; refine (CA.out _).mono ?_; rintro e wy ⟨rfl, m, hw⟩; have hLy := Lp.same HL.out (u := wy) (by rw [hw]; first | exact below_drewN' _ m | exact below_t5 (below_drewN' _ _) (below_drewN' _ m) | exact below_t5 (Below.refl _ _).drew (below_drewN' _ m)); clear hw; obtain ⟨g, cap, w4, hr, hk4, hl4⟩ := Lp.app1 hLy X1 HK1.out.1 HK1.out.2 G1.out HY9.out; have HR := hide hr; have q9 := hLy.ky.cell 9; rw [HG9.out] at q9; have hszy := hLy.ky.lt; have HQ := hide (hk4.cell 9); have HZ := hide (hk4.frozen 9); have HT := hide hk4.lt; have HL4 := hide hl4; clear hLy hr hk4 hl4) | (refine step_append_run _ (by rfl) _ _ _ _ rfl _ _ (by rfl) (by rfl) _ _ HR.out ?_; clear q9; have q9 := HQ.out; rw [HG9.out] at q9; have z9 := HZ.out; have t9 := HT.out)))
        all_goals
          refine HKK1.out _ _ ?_
          clear HKK1 q9 z9 t9 HQ HZ HT HR
          generalize w4.setCell ⟨y, 9, none⟩ (.slice (some ⟨g, 0, none⟩) (k + 1) cap) = wa at HL4 ⊢
          generalize (.slice (some ⟨g, 0, none⟩) (k + 1) cap : Value) = v1n at HL4 ⊢
          have HLa := HL4
          clear HL4
          have c9 := HLa.out.ky.cell 9
          have c10 := HLa.out.ky.cell 10
          rw [HG9.out] at c9
          rw [HG10.out] at c10
          have ylt := HLa.out.ky.lt
          clear HL
          go_wp2_with fail
          go_region_law ((first | (go_simp; go_at_call 29; refine (CB.out _).mono ?_; rintro e wy ⟨rfl, m, hw⟩; have hLy := Lp.same HLa.out (u := wy) (by rw [hw]; first | exact below_drewN' _ m | exact below_t5 (below_drewN' _ _) (below_drewN' _ m) | exact below_t5 (Below.refl _ _).drew (below_drewN' _ m)); clear hw; obtain ⟨g, cap, w4, hr, hk4, hl4⟩ := Lp.app2 hLy X2 HK2.out.1 HK2.out.2 G2.out HY10.out; have HR := hide hr; have q9 := hLy.ky.cell 10; rw [HG10.out] at q9; have hszy := hLy.ky.lt; have HQ := hide (hk4.cell 10); have HZ := hide (hk4.frozen 10); have HT := hide hk4.lt; have HL4 := hide hl4; clear hLy hr hk4 hl4) | (refine step_append_run _ (by rfl) _ _ _ _ rfl _ _ (by rfl) (by rfl) _ _ HR.out ?_; clear q9; have q9 := HQ.out; rw [HG10.out] at q9; have z9 := HZ.out; have t9 := HT.out)))
          all_goals
            clear q9 z9 t9 HQ HZ HT HR
            generalize w4.setCell ⟨y, 10, none⟩ (.slice (some ⟨g, 0, none⟩) (k + 1) cap) = wb at HL4 ⊢
            generalize (.slice (some ⟨g, 0, none⟩) (k + 1) cap : Value) = v2n at HL4 ⊢
            have HLb := HL4
            clear HL4
            have c9 := HLb.out.ky.cell 9
            have c10 := HLb.out.ky.cell 10
            rw [HG9.out] at c9
            rw [HG10.out] at c10
            have ylt := HLb.out.ky.lt
            clear HLa
            go_wp2_with fail
            go_roundw
            case rel => exact ⟨k + 1, _, _, by go_num, by omega, HLb⟩
            case measure => simp [intOf]; omega
      · have hkH' : ¬ (k : Int) < (H : Int) := by omega
        have CA : Hid (∀ x, Calls Try.prog 28 #[.string hx, .int .i64 (4 * (H : Int) - 4)] x fun e w' => e = .returned (.int .i64 X1) ∧ ∃ n, w' = x.drewN n) := hide fun x => by
          have h := ru2_any hx (4 * H - 4) (4 * (H : Int) - 4) x (by omega) (by have := HH.out; omega) HH.out.2.2.2.2
          rw [← hX1]; unfold advF; rw [if_neg hkH]; exact h
        have CB : Hid (∀ x, Calls Try.prog 29 #[.string hx, .int .i64 (4 * (H : Int) + 2 * ((k : Int) - (H : Int)))] x fun e w' => e = .returned (.int .i64 X2) ∧ ∃ n, w' = x.drewN n) := hide fun x => by
          have h := rs2_any hx (4 * H + 2 * (k - H)) (4 * (H : Int) + 2 * ((k : Int) - (H : Int))) x (by omega) (by have := HH.out; omega) HH.out.2.2.2.2
          rw [← hX2]; unfold beaF; rw [if_neg hkH]; exact h
        have hw1 : IntKind.i64.wrap (4 * (H : Int)) = 4 * (H : Int) := by rw [IntKind.wrap_i64]; omega
        have hw2 : IntKind.i64.wrap (4 * (H : Int) - 4) = 4 * (H : Int) - 4 := by rw [IntKind.wrap_i64]; omega
        have hw3 : IntKind.i64.wrap ((k : Int) - (H : Int)) = (k : Int) - (H : Int) := by rw [IntKind.wrap_i64]; omega
        have hw4 : IntKind.i64.wrap (2 * ((k : Int) - (H : Int))) = 2 * ((k : Int) - (H : Int)) := by rw [IntKind.wrap_i64]; omega
        have hw5 : IntKind.i64.wrap (4 * (H : Int) + 2 * ((k : Int) - (H : Int))) = 4 * (H : Int) + 2 * ((k : Int) - (H : Int)) := by rw [IntKind.wrap_i64]; omega
        clear hX1 hX2 hlt hkH
        go_wp2_with fail
        rename_i k0
        have HKK1 := hide k0
        clear k0
        go_region_law ((first | (go_simp; go_at_call 28; refine (CA.out _).mono ?_; rintro e wy ⟨rfl, m, hw⟩; have hLy := Lp.same HL.out (u := wy) (by rw [hw]; first | exact below_drewN' _ m | exact below_t5 (below_drewN' _ _) (below_drewN' _ m) | exact below_t5 (Below.refl _ _).drew (below_drewN' _ m)); clear hw; obtain ⟨g, cap, w4, hr, hk4, hl4⟩ := Lp.app1 hLy X1 HK1.out.1 HK1.out.2 G1.out HY9.out; have HR := hide hr; have q9 := hLy.ky.cell 9; rw [HG9.out] at q9; have hszy := hLy.ky.lt; have HQ := hide (hk4.cell 9); have HZ := hide (hk4.frozen 9); have HT := hide hk4.lt; have HL4 := hide hl4; clear hLy hr hk4 hl4) | (refine step_append_run _ (by rfl) _ _ _ _ rfl _ _ (by rfl) (by rfl) _ _ HR.out ?_; clear q9; have q9 := HQ.out; rw [HG9.out] at q9; have z9 := HZ.out; have t9 := HT.out)))
        all_goals
          refine HKK1.out _ _ ?_
          clear HKK1 q9 z9 t9 HQ HZ HT HR
          generalize w4.setCell ⟨y, 9, none⟩ (.slice (some ⟨g, 0, none⟩) (k + 1) cap) = wa at HL4 ⊢
          generalize (.slice (some ⟨g, 0, none⟩) (k + 1) cap : Value) = v1n at HL4 ⊢
          have HLa := HL4
          clear HL4
          have c9 := HLa.out.ky.cell 9
          have c10 := HLa.out.ky.cell 10
          rw [HG9.out] at c9
          rw [HG10.out] at c10
          have ylt := HLa.out.ky.lt
          clear HL
          go_wp2_with fail
          go_region_law ((first | (go_simp; go_at_call 29; refine (CB.out _).mono ?_; rintro e wy ⟨rfl, m, hw⟩; have hLy := Lp.same HLa.out (u := wy) (by rw [hw]; first | exact below_drewN' _ m | exact below_t5 (below_drewN' _ _) (below_drewN' _ m) | exact below_t5 (Below.refl _ _).drew (below_drewN' _ m)); clear hw; obtain ⟨g, cap, w4, hr, hk4, hl4⟩ := Lp.app2 hLy X2 HK2.out.1 HK2.out.2 G2.out HY10.out; have HR := hide hr; have q9 := hLy.ky.cell 10; rw [HG10.out] at q9; have hszy := hLy.ky.lt; have HQ := hide (hk4.cell 10); have HZ := hide (hk4.frozen 10); have HT := hide hk4.lt; have HL4 := hide hl4; clear hLy hr hk4 hl4) | (refine step_append_run _ (by rfl) _ _ _ _ rfl _ _ (by rfl) (by rfl) _ _ HR.out ?_; clear q9; have q9 := HQ.out; rw [HG10.out] at q9; have z9 := HZ.out; have t9 := HT.out)))
          all_goals
            clear q9 z9 t9 HQ HZ HT HR
            generalize w4.setCell ⟨y, 10, none⟩ (.slice (some ⟨g, 0, none⟩) (k + 1) cap) = wb at HL4 ⊢
            generalize (.slice (some ⟨g, 0, none⟩) (k + 1) cap : Value) = v2n at HL4 ⊢
            have HLb := HL4
            clear HL4
            have c9 := HLb.out.ky.cell 9
            have c10 := HLb.out.ky.cell 10
            rw [HG9.out] at c9
            rw [HG10.out] at c10
            have ylt := HLb.out.ky.lt
            clear HLa
            go_wp2_with fail
            go_roundw
            case rel => exact ⟨k + 1, _, _, by go_num, by omega, HLb⟩
            case measure => simp [intOf]; omega
end Go.Proofs.Ytehcpnbbgjinfaa
