/-
  Joined: K17Mf, K17Mg, K17Mh.
-/
import Derived.BigQuiet
import Derived.Deep.QuietTactic
import Derived.Test.YtpmdekhjodhdmaaDoorP22
namespace Go.Proofs.YtpmdekhjodhdmaaDoor.K17
open Go.RowKit Go.Proofs.YtpmdekhjodhdmaaDoor
open Go.Lib
set_option linter.unusedVariables false
set_option linter.unusedSimpArgs false
set_option maxRecDepth 100000
theorem blen_any (B b : Nat) (l : List UInt8) (w : World) (h : Bd w B b l) :
    Calls Tryd.prog 28 #[.pointer (some ⟨b, 0, none⟩)] w fun e w' => e = .returned (.int .i64 ((l.length : Nat) : Int)) ∧ w' = w := by
  have hv : ∃ ao cap, w.cell? ⟨b, 1, none⟩ = some (.slice ao l.length cap) := by
    rcases h with ⟨_, v, hbk, hown, _⟩ | ⟨_, v, hbk, hown, _⟩ <;>
    · obtain ⟨_, ⟨hv, hz⟩ | ⟨g, cap, cur, hv, _⟩⟩ := hown
      · rw [List.length_map] at hz
        refine ⟨none, 0, ?_⟩
        rw [Lib.cell_of_heap hbk, hz, hv]; rfl
      · refine ⟨some ⟨g, 0, none⟩, cap, ?_⟩
        rw [Lib.cell_of_heap hbk, hv, List.length_map]; rfl
  obtain ⟨ao, cap, hc⟩ := hv
  obtain ⟨n, hn⟩ : ∃ n, l.length = n := ⟨_, rfl⟩
  rw [hn] at hc ⊢
  clear h hn
  go_enter Tryd.func28, Tryd.ntmps28
  go_wp2_with fail
  go_ret
  exact ⟨rfl, rfl⟩
theorem Wr.blk {B b : Nat} {w w' : World} (h : Wr B b w w') {j : Nat} {cs : Array Value} {t : TypeId} (hk : Blk w j cs t) (hj : j ≠ b) (ht : t ≠ 5) : Blk w' j cs t :=
  h.oth j _ hk (by simpa using hj) (fun c fz he => by injection he with _ e _; exact ht e)
theorem cat17 (a b : ByteArray) : (a ++ b).data.toList = a.data.toList ++ b.data.toList := by
  rw [ByteArray.data_append]; simp
structure WS (w0 w : World) (B b j : Nat) (cs : Array Value) (l : List UInt8) (cur : World) : Prop where
  bd : Bd cur B b l
  le : l.length ≤ 1500000000
  sz : B ≤ cur.heap.size
  wr : Wr B b w cur
  bl : Blk cur j cs 45
  ne : j ≠ b
  old : Below w0.heap.size w0 cur
  oB : w0.heap.size = B
theorem WS.next {w0 w : World} {B b j : Nat} {cs : Array Value} {l l2 : List UInt8} {cur cur' : World} (h : WS w0 w B b j cs l cur) (h1 : Bd cur' B b l2) (k1 : Wr B b cur cur') (hl : l2.length ≤ 1500000000) : WS w0 w B b j cs l2 cur' :=
  ⟨h1, hl, Nat.le_trans h.sz k1.below.size, h.wr.trans k1, k1.blk h.bl h.ne (by decide), h.ne, h.old.trans (by rw [h.oB]; exact k1.below), h.oB⟩
theorem WS.al {w0 w : World} {B b j : Nat} {cs : Array Value} {l : List UInt8} {cur : World} (h : WS w0 w B b j cs l cur) (o : Obj) : WS w0 w B b j cs l (cur.alloc o) :=
  have hb : Below cur.heap.size cur (cur.alloc o) := (Below.refl _ _).alloc (Nat.le_refl _) _
  ⟨h.bd.below hb, h.le, Nat.le_trans h.sz hb.size, h.wr.alloc h.sz o, h.bl.below hb, h.ne, h.old.alloc (by rw [h.oB]; exact h.sz) o, h.oB⟩
theorem WS.eq {w0 w : World} {B b j : Nat} {cs : Array Value} {l l2 : List UInt8} {cur : World} (h : WS w0 w B b j cs l cur) (e : l = l2) : WS w0 w B b j cs l2 cur := e ▸ h
theorem wstr_ws {w0 w : World} {B b j : Nat} {cs : Array Value} {l : List UInt8} {cur : World} (S : Hid (WS w0 w B b j cs l cur)) (s : ByteArray) (q : List UInt8) (hq : s.data.toList = q) (hl : l.length + q.length ≤ 1500000000) :
    Calls Tryd.prog 49 #[.pointer (some ⟨b, 0, none⟩), .string s] cur fun e w' => e = .returned (.tuple #[.int .i64 s.size, .nilIface]) ∧ WS w0 w B b j cs (l ++ q) w' := by
  subst hq
  have hz := size_l s
  exact (wstr_any B b l s cur S.out.bd (by omega) S.out.sz).mono fun e w' ⟨h1, h2, h3⟩ => ⟨h1, S.out.next h2 h3 (by rw [List.length_append]; omega)⟩
theorem esc_ws {w0 w : World} {B b j : Nat} {cs : Array Value} {l : List UInt8} {cur : World} (S : Hid (WS w0 w B b j cs l cur)) (s : ByteArray) (q : List UInt8) (hq : s.data.toList = q) (hv : Vt q) (hl : l.length + 6 * q.length ≤ 1500000000) :
    Calls Tryd.prog 33 #[.pointer (some ⟨b, 0, none⟩), .string s] cur fun e w' => e = .returned (.tuple #[]) ∧ WS w0 w B b j cs (l ++ esc q) w' := by
  subst hq
  have hz := size_l s
  have he := esc_len s.data.toList
  exact (escape_any B b l s cur S.out.bd S.out.sz (by omega) hv).mono fun e w' ⟨h1, h2, h3⟩ => ⟨h1, S.out.next h2 h3 (by rw [List.length_append]; omega)⟩
theorem pln_vt {l : List UInt8} (h : pln l = true) : Vt l := by
  unfold pln at h
  rw [Bool.and_eq_true] at h
  exact (valid_iff l).1 h.1
theorem okA_pln {ps : List At} (h : okA ps = true) : ps.length ≤ 16 ∧ ∀ p ∈ ps, pln p.2 = true := by
  unfold okA at h
  rw [Bool.and_eq_true, decide_eq_true_eq] at h
  refine ⟨h.1, fun p hp => ?_⟩
  obtain ⟨i, hi, rfl⟩ := List.mem_iff_getElem.1 hp
  have := allN_iff.1 h.2 i hi
  unfold okA1 at this
  rw [List.getD_eq_getElem?_getD, List.getElem?_eq_getElem hi] at this
  simp only [Option.getD_some, Bool.and_eq_true] at this
  exact this.2
theorem okT_cases {t : Tg} (h : okT t = true) : (t.k = 4 ∧ pln t.t = true) ∨ (t.k = 2 ∧ t.ps.length = 0) ∨ ((t.k = 1 ∨ t.k = 3) ∧ t.ps.length ≤ 16 ∧ ∀ p ∈ t.ps, pln p.2 = true) := by
  unfold okT at h
  split at h
  · rename_i h4
    simp only [Bool.and_eq_true] at h
    exact Or.inl ⟨h4, h.2⟩
  · split at h
    · rename_i h2
      simp only [Bool.and_eq_true, decide_eq_true_eq] at h
      exact Or.inr (Or.inl ⟨h2, h.1.2⟩)
    · split at h
      · rename_i h13
        simp only [Bool.and_eq_true] at h
        exact Or.inr (Or.inr ⟨h13, okA_pln h.1.2⟩)
      · simp at h
theorem cells5 {cur : World} {j : Nat} {x0 x1 x2 x3 x4 : Value} {t : TypeId} (h : Blk cur j #[x0, x1, x2, x3, x4] t) : cur.cell? ⟨j, 0, none⟩ = some x0 ∧ cur.cell? ⟨j, 1, none⟩ = some x1 ∧ cur.cell? ⟨j, 2, none⟩ = some x2 ∧ cur.cell? ⟨j, 3, none⟩ = some x3 ∧ cur.cell? ⟨j, 4, none⟩ = some x4 :=
  ⟨by simpa using h.cell 0, by simpa using h.cell 1, by simpa using h.cell 2, by simpa using h.cell 3, by simpa using h.cell 4⟩
set_option maxHeartbeats 8000000 in
theorem write_any (t : Tg) (aa : Option Addr) (ac : Nat) (w0 w : World) (B b : Nat) (acc : List UInt8) (hok : okT t = true) (hm : TgM t) (hA : ALs w0 aa t.ps) (hb0 : Below w0.heap.size w0 w) (hB : w0.heap.size = B) (hbd : Bd w B b acc) (hl : acc.length ≤ 1000000000) :
    Calls Tryd.prog 27 #[.pointer (some ⟨b, 0, none⟩), tgv t aa ac] w fun e w' => e = .returned (.tuple #[]) ∧ Bd w' B b (acc ++ txT t) ∧ Wr B b w w' := by
  obtain ⟨hbx, hbt, hbn, hba⟩ := hm
  have hcs := okT_cases hok
  obtain ⟨k, x, tt, ps, a⟩ := t
  simp only at hbx hbt hbn hba hA hcs
  have htx : txT ⟨k, x, tt, ps, a⟩ = if k = 4 then esc tt else if k = 2 then [60, 47] ++ x ++ [62] else [60] ++ x ++ ps.flatMap aT ++ (if k = 3 then [47] else []) ++ [62] := rfl
  rw [htx]
  dsimp only [tgv]
  obtain ⟨n, hn⟩ : ∃ n, ps.length = n := ⟨_, rfl⟩
  rw [hn] at hcs hba ⊢
  have hX := mk_l x
  have hY := mk_l tt
  generalize (⟨x.toArray⟩ : ByteArray) = X at *
  generalize (⟨tt.toArray⟩ : ByteArray) = Y at *
  have hbl := hbd.lt
  have hBw : B ≤ w.heap.size := by rw [← hB]; exact hb0.size
  have S0 := hide (show WS w0 w B b w.heap.size #[.int .i64 k, .string X, .string Y, .slice aa n ac, .int .i64 a] acc (w.alloc (.cells #[.int .i64 k, .string X, .string Y, .slice aa n ac, .int .i64 a] 45)) from
    ⟨hbd.below ((Below.refl _ _).alloc (Nat.le_refl _) _), by omega, by simp; omega, (Wr.refl _ _ _).alloc hBw _, Blk.new _ _ _, by omega, hb0.alloc (by omega) _, hB⟩)
  have HX := hide hX
  have HY := hide hY
  have HL := hide (show acc.length ≤ 1000000000 ∧ x.length ≤ 1048576 ∧ tt.length ≤ 1048576 by omega)
  have HA := hide hA
  have HN := hide hn
  have hbn2 : w.heap.size ≠ b := by omega
  clear hok htx hbd hX hY hl hbx hbt hA hn hbl
  rcases hcs with ⟨h4, hp⟩ | ⟨h2, h0⟩ | ⟨h13, h16, hp⟩
  · subst h4
    rw [if_pos rfl]
    have HV := hide (pln_vt hp)
    clear hp hba hbn hb0 hB hBw
    go_enter Tryd.func27, Tryd.ntmps27
    go_wp2_with (first
      | (go_at_call 33; refine (esc_ws S0 _ tt HY.out HV.out (by have := HL.out; omega)).mono ?_; rintro e v1 ⟨rfl, h1⟩; have S1 := hide h1; clear h1))
    refine bodyPost_ret (v := .tuple #[]) (results_none rfl _ _ _) rfl ?_
    exact ⟨rfl, S1.out.bd, S1.out.wr⟩
  · subst h2
    subst h0
    rw [if_neg (by decide), if_pos rfl]
    clear hba hbn hb0 hB hBw
    go_enter Tryd.func27, Tryd.ntmps27
    go_wp2_with (first
      | (go_at_call 49; refine (wstr_ws S0 _ [60] rfl (by have := HL.out; simp; omega)).mono ?_; rintro e vS1 ⟨rfl, h1⟩; have S1 := hide h1; obtain ⟨c0, c1, c2, c3, c4⟩ := cells5 h1.bl; clear h1 S0)
      | (go_at_call 49; refine (wstr_ws S1 _ [47] rfl (by have := HL.out; simp; omega)).mono ?_; rintro e vS2 ⟨rfl, h1⟩; have S2 := hide h1; obtain ⟨c0, c1, c2, c3, c4⟩ := cells5 h1.bl; clear h1 S1)
      | (go_at_call 49; refine (wstr_ws S2 _ x HX.out (by have := HL.out; simp; omega)).mono ?_; rintro e vS3 ⟨rfl, h1⟩; have S3 := hide h1; obtain ⟨c0, c1, c2, c3, c4⟩ := cells5 h1.bl; clear h1 S2))
    go_loopw [27] (fun vi wr => vi = .int .i64 0 ∧ wr = vS3) (fun vi _ => 0)
    case atStart => exact ⟨rfl, rfl⟩
    case round =>
      obtain ⟨rfl, rfl⟩ := hrel
      go_wp2_with (first
        | (go_at_call 49; refine (wstr_ws S3 _ [62] rfl (by have := HL.out; simp; omega)).mono ?_; rintro e vS4 ⟨rfl, h1⟩; have S4 := hide h1; obtain ⟨c0, c1, c2, c3, c4⟩ := cells5 h1.bl; clear h1))
      go_end0
      exact ⟨rfl, by have := S4.out.bd; simpa using this, S4.out.wr⟩
  · have h4 : ¬ k = 4 := by rcases h13 with rfl | rfl <;> decide
    have h2 : ¬ k = 2 := by rcases h13 with rfl | rfl <;> decide
    rw [if_neg h4, if_neg h2]
    have f4 : (k == 4) = false := by rw [beq_eq_false_iff_ne]; exact h4
    have f2 : (k == 2) = false := by rw [beq_eq_false_iff_ne]; exact h2
    have HP := hide (fun p hq => And.intro (hp p hq) (hba h16 p hq))
    have hni : (n : Int) ≤ 16 := by omega
    have H16 := hide h16
    have H13 := hide h13
    clear hba hbn hp h13 h16 h4 h2 hb0 hB hBw
    go_enter Tryd.func27, Tryd.ntmps27
    go_wp2_with (first
      | (go_at_call 49; refine (wstr_ws S0 _ [60] rfl (by have := HL.out; simp; omega)).mono ?_; rintro e vS1 ⟨rfl, h1⟩; have S1 := hide h1; obtain ⟨c0, c1, c2, c3, c4⟩ := cells5 h1.bl; clear h1 S0)
      | (go_at_call 49; refine (wstr_ws S1 _ x HX.out (by have := HL.out; simp; omega)).mono ?_; rintro e vS3 ⟨rfl, h1⟩; have S3 := hide h1; obtain ⟨c0, c1, c2, c3, c4⟩ := cells5 h1.bl; clear h1 S1))
    go_loopw [27] (fun vi wr => ∃ j : Nat, vi = .int .i64 j ∧ Hid (j ≤ n ∧ WS w0 w B b w.heap.size #[.int .i64 k, .string X, .string Y, .slice aa n ac, .int .i64 a] (acc ++ [60] ++ x ++ (ps.take j).flatMap aT) wr)) (fun vi _ => n - (RowKit.intOf vi).toNat)
    case atStart => exact ⟨0, rfl, hide ⟨by omega, by simpa using S3.out⟩⟩
    case round =>
      obtain ⟨j, rfl, HJ⟩ := hrel
      obtain ⟨j1, j2⟩ := HJ.out
      clear HJ c0 c1 c2 c3 c4
      obtain ⟨c0, c1, c2, c3, c4⟩ := cells5 j2.bl
      by_cases hj : j < n
      · have hj' : (j : Int) < (n : Int) := by omega
        rcases HA.out.below j2.old with h0 | ⟨pb, off, rfl, hlt, hcell⟩
        · have := HN.out; rw [h0] at this; simp at this; omega
        obtain ⟨d0, d1⟩ := hcell j (by have := HN.out; omega)
        have hfl := flat_take aT ([], []) ps j (by have := HN.out; omega)
        have hmem : ps.getD j ([], []) ∈ ps := by rw [List.getD_eq_getElem?_getD, List.getElem?_eq_getElem (by have := HN.out; omega)]; exact List.getElem_mem _
        obtain ⟨hpl, hz1, hz2⟩ := HP.out _ hmem
        generalize ps.getD j ([], []) = q at *
        obtain ⟨q1, q2⟩ := q
        simp only at d0 d1 hpl hz1 hz2
        have hQ1 := mk_l q1
        have hQ2 := mk_l q2
        generalize (⟨q1.toArray⟩ : ByteArray) = Q1 at *
        generalize (⟨q2.toArray⟩ : ByteArray) = Q2 at *
        obtain ⟨L, hL⟩ : ∃ L, acc ++ [60] ++ x ++ (ps.take j).flatMap aT = L := ⟨_, rfl⟩
        have hLl : L.length ≤ 1300000000 := by
          rw [← hL]
          have h1 := ats_len (ps.take j)
          have h2 := szA_bd (ps.take j) 1048576 (fun p hp => (HP.out p (List.mem_of_mem_take hp)).2)
          have h3 : (ps.take j).length ≤ 16 := by rw [List.length_take]; have := HN.out; have := H16.out; omega
          have := HL.out
          simp only [List.length_append, List.length_cons, List.length_nil]
          omega
        rw [hL] at j2
        have hq1z : (Q1.size : Int) ≤ 1048576 := by have := size_l Q1; rw [hQ1] at this; omega
        have HCT := hide (show (({ data := #[32] } : ByteArray) ++ Q1 ++ ({ data := #[61, 34] } : ByteArray)).data.toList = [32] ++ q1 ++ [61, 34] by rw [cat17, cat17, hQ1])
        have HQ2 := hide hQ2
        have HLL := hide (show L.length ≤ 1300000000 ∧ q1.length ≤ 1048576 ∧ q2.length ≤ 1048576 from ⟨hLl, hz1, hz2⟩)
        have HVQ := hide (pln_vt hpl)
        have T0 := hide (j2.al (.cells #[.string Q1, .string Q2] 47))
        have TA := hide (Blk.new wr #[.string Q1, .string Q2] 47)
        have hbr : wr.heap.size ≠ b := by have := j2.bd.lt; omega
        have HFL := hide (show L ++ ([32] ++ q1 ++ [61, 34]) ++ esc q2 ++ [34] = acc ++ [60] ++ x ++ (ps.take (j + 1)).flatMap aT by
          rw [hfl, ← hL]; unfold aT; simp only [List.append_assoc])
        have HBR := hide hbr
        clear hcell hfl hmem hpl hz1 hz2 hQ1 hQ2 hL hLl j2
        go_wp2_with (first
          | (go_at_call 49; refine (wstr_any B b _ _ _ T0.out.bd (by have := size_l (({ data := #[32] } : ByteArray) ++ Q1 ++ ({ data := #[61, 34] } : ByteArray)); rw [HCT.out] at this; have := HLL.out; simp at *; omega) T0.out.sz).mono ?_; rintro e v1 ⟨rfl, h1, k1⟩; rw [HCT.out] at h1; have T1 := hide (T0.out.next h1 k1 (by have := HLL.out; simp; omega)); have TB := hide (k1.blk TA.out HBR.out (by decide)); have d4 := TB.out.cell 0; have d5 := TB.out.cell 1; simp at d4 d5; clear h1 k1 TA T0)
          | (go_at_call 33; refine (escape_any B b _ _ _ T1.out.bd T1.out.sz (by have := size_l Q2; rw [HQ2.out] at this; have := HLL.out; simp; omega) (by rw [HQ2.out]; exact HVQ.out)).mono ?_; rintro e v2 ⟨rfl, h1, k1⟩; rw [HQ2.out] at h1; have T2 := hide (T1.out.next h1 k1 (by have := HLL.out; have := esc_len q2; simp; omega)); clear h1 k1 T1)
          | (go_at_call 49; refine (wstr_ws T2 _ [34] rfl (by have := HLL.out; have := esc_len q2; simp; omega)).mono ?_; rintro e v3 ⟨rfl, h1⟩; have T3 := hide h1; clear h1))
        go_roundw
        case rel => exact ⟨j + 1, by go_num, hide ⟨by omega, T3.out.eq HFL.out⟩⟩
        case measure => simp [RowKit.intOf]; omega
      · have hj' : ¬ (j : Int) < (n : Int) := by omega
        rw [List.take_of_length_le (by have := HN.out; omega)] at j2
        have hLl : (acc ++ [60] ++ x ++ ps.flatMap aT).length ≤ 1300000000 := by
          have h1 := ats_len ps
          have h2 := szA_bd ps 1048576 (fun p hp => (HP.out p hp).2)
          have := HN.out; have := H16.out; have := HL.out
          simp only [List.length_append, List.length_cons, List.length_nil]
          omega
        have HLL := hide hLl
        have S4 := hide j2
        clear j2 hLl
        rcases H13.out with rfl | rfl
        · go_wp2_with (first
            | (go_at_call 49; refine (wstr_ws S4 _ [62] rfl (by have := HLL.out; simp at *; omega)).mono ?_; rintro e v5 ⟨rfl, h1⟩; have S5 := hide h1; clear h1))
          go_end0
          exact ⟨rfl, by have := S5.out.bd; simpa using this, S5.out.wr⟩
        · go_wp2_with (first
            | (go_at_call 49; refine (wstr_ws S4 _ [47] rfl (by have := HLL.out; simp at *; omega)).mono ?_; rintro e v5 ⟨rfl, h1⟩; have S5 := hide h1; clear h1 S4)
            | (go_at_call 49; refine (wstr_ws S5 _ [62] rfl (by have := HLL.out; simp at *; omega)).mono ?_; rintro e v6 ⟨rfl, h1⟩; have S6 := hide h1; clear h1))
          go_end0
          exact ⟨rfl, by have := S6.out.bd; simpa using this, S6.out.wr⟩
theorem okT_16 {t : Tg} (h : okT t = true) : t.ps.length ≤ 16 := by
  unfold okT at h
  split at h
  · simp only [Bool.and_eq_true, decide_eq_true_eq] at h; omega
  · split at h
    · simp only [Bool.and_eq_true, decide_eq_true_eq] at h; omega
    · split at h
      · simp only [Bool.and_eq_true, okA, decide_eq_true_eq] at h; omega
      · simp at h
theorem szT_16 {t : Tg} (h : t.ps.length ≤ 16) : t.x.length + t.t.length + szA t.ps ≤ szT t := by
  unfold szT
  rw [List.take_of_length_le (by omega)]; omega
set_option maxHeartbeats 1000000 in
theorem print_any (a : Option Addr) (cap n : Nat) (ts : List Tg) (w : World) (hg : Glo w) (hn : ts.length = n) (h6 : n ≤ 1000000) (h : GLs w a ts) (hb : ∀ t ∈ ts, TgM t) (hs : szL ts ≤ 20000) :
    Calls Tryd.prog 15 #[.slice a n cap] w fun e w' => e = .returned (.tuple #[.string ⟨(prV ts).1.toArray⟩, .int .i64 (prV ts).2]) ∧ Below w.heap.size w w' := by
  have CA := hide (aretokens_any a cap n ts w hg hn (by omega) h hb)
  have h6' : (n : Int) ≤ 1000000 := by omega
  unfold prV
  cases hok : okL ts
  · rw [hok] at CA
    clear hg hn h hb hs hok
    go_enter Tryd.func15, Tryd.ntmps15
    go_wp2_with (first
      | (go_at_call 25; refine CA.out.mono ?_; rintro e w1 ⟨rfl, h1⟩))
    go_ret2
    exact ⟨rfl, h1⟩
  · rw [hok] at CA
    have HOK := hide (okL_mem hok)
    have HLN := hide (fun k => Nat.le_trans (prL_len (ts := ts.take k) (allN_iff.2 fun i hi => by
      rw [List.length_take] at hi
      have := allN_iff.1 hok i (by omega)
      unfold okL1 two at this ⊢
      rw [List.getD_eq_getElem?_getD, List.getD_eq_getElem?_getD, List.getElem?_take, List.getElem?_take, if_pos (by omega), if_pos (by omega)]
      rw [List.getD_eq_getElem?_getD, List.getD_eq_getElem?_getD] at this
      exact this)) (Nat.mul_le_mul_left 10 (sz_take ts k)))
    have HA := hide h
    have HN := hide hn
    have HB := hide hb
    have HS := hide hs
    obtain ⟨T, hT⟩ : ∃ T, ts.flatMap txT = T := ⟨_, rfl⟩
    rw [if_pos rfl, hT]
    have HT := hide hT
    clear hg hn h hb hs hok hT
    go_enter Tryd.func15, Tryd.ntmps15
    go_wp2_with (first
      | (go_at_call 25; refine CA.out.mono ?_; rintro e w1 ⟨rfl, h1⟩; have H1 := hide h1; clear h1))
    have HB0 := hide (Bd.new w1)
    have HB1 := hide ((Below.refl w1.heap.size w1).alloc (Nat.le_refl _) (.cells #[.pointer none, .slice none 0 0] 58))
    go_loopw [12] (fun vi wr => ∃ j : Nat, vi = .int .i64 j ∧ Hid (j ≤ n ∧ Bd wr w1.heap.size w1.heap.size ((ts.take j).flatMap txT) ∧ Below w1.heap.size w1 wr)) (fun vi _ => n - (RowKit.intOf vi).toNat)
    case atStart => exact ⟨0, rfl, hide ⟨by omega, HB0.out, HB1.out⟩⟩
    case round =>
      clear HB0 HB1 CA
      obtain ⟨j, rfl, HJ⟩ := hrel
      obtain ⟨j1, j2, j3⟩ := HJ.out
      clear HJ
      have hjl : ((ts.take j).flatMap txT).length ≤ 200000 := by have := HLN.out j; have := HS.out; omega
      by_cases hj : j < n
      · have hj' : (j : Int) < (n : Int) := by omega
        have hjl2 : ((ts.take (j + 1)).flatMap txT).length ≤ 200000 := by have := HLN.out (j + 1); have := HS.out; omega
        have hfl := flat_take txT tg0 ts j (by have := HN.out; omega)
        rcases HA.out.below (H1.out.trans (j3.mono H1.out.size)) with h0 | ⟨b, off, rfl, hlt, hcell⟩
        · have := HN.out; rw [h0] at this; simp at this; omega
        obtain ⟨aa, ac, c0, c1, c2, c3, c4, hal, hcap⟩ := hcell j (by have := HN.out; omega)
        have hal1 : ∃ aa', ∃ ac', wr.cell? ⟨b, off + j * 5 + 3, none⟩ = some (.slice aa' (ts.getD j tg0).ps.length ac') ∧ ALs w1 aa' (ts.getD j tg0).ps := by
          rcases HA.out.below H1.out with h0 | ⟨b', off', he, hlt', hcell'⟩
          · have := HN.out; rw [h0] at this; simp at this; omega
          · have e1 : b = b' := by injection he with he; injection he
            have e2 : off = off' := by injection he with he; injection he
            subst e1; subst e2
            obtain ⟨aa', ac', _, _, _, q3, _, qal, _⟩ := hcell' j (by have := HN.out; omega)
            exact ⟨aa', ac', by rw [j3.cell (p := ⟨b, off + j * 5 + 3, none⟩) hlt']; exact q3, qal⟩
        obtain ⟨aa', ac', q3, qal⟩ := hal1
        rw [c3] at q3
        have e1 : aa = aa' := by
          injection q3 with q3
          injection q3
        clear q3
        subst e1
        have hmem : ts.getD j tg0 ∈ ts := by rw [List.getD_eq_getElem?_getD, List.getElem?_eq_getElem (by have := HN.out; omega)]; exact List.getElem_mem _
        have hok := HOK.out _ hmem
        have h16 := okT_16 hok
        have hsz := szT_16 h16
        have hsl := sum_le szT ts _ hmem
        have hm := HB.out _ hmem
        have CS := fun w' (h : Below wr.heap.size wr w') => size_any (ts.getD j tg0) aa ac w' (hal.below h) h16 hm
        have CW := fun w' (hb0 : Below w1.heap.size w1 w') hbd => write_any (ts.getD j tg0) aa ac w1 w' w1.heap.size w1.heap.size ((ts.take j).flatMap txT) hok hm qal hb0 rfl hbd (by omega)
        rw [← hfl] at CW
        have hs2 : szT (ts.getD j tg0) ≤ 20000 := by have := HS.out; unfold szL at this; omega
        clear hcell hm qal hfl
        generalize ts.getD j tg0 = t at *
        obtain ⟨κ, x, tt, ps, ta⟩ := t
        simp only at c0 c1 c2 c3 c4 hal hcap hsz
        dsimp only [tgv] at CS CW
        obtain ⟨sz, hszz⟩ : ∃ sz, x.length + tt.length + szA ps = sz := ⟨_, rfl⟩
        rw [hszz] at CS hsz
        have hszi : (sz : Int) ≤ 20000 := by omega
        generalize (⟨x.toArray⟩ : ByteArray) = X at *
        generalize (⟨tt.toArray⟩ : ByteArray) = Y at *
        obtain ⟨m, hm⟩ : ∃ m, ps.length = m := ⟨_, rfl⟩
        rw [hm] at c3 CS CW
        obtain ⟨F, hF⟩ : ∃ F, (ts.take (j + 1)).flatMap txT = F := ⟨_, rfl⟩
        rw [hF] at CW hjl2
        obtain ⟨fl, hfl⟩ : ∃ fl, F.length = fl := ⟨_, rfl⟩
        have hfi : (fl : Int) ≤ 200000 := by omega
        have HF := hide hF
        have HFL := hide hfl
        have CS := hide CS
        have CW := hide CW
        have J2 := hide j2
        have J3 := hide j3
        have HAL := hide ((Below.refl wr.heap.size wr).alloc (Nat.le_refl _) (.cells #[.int .i64 κ, .string X, .string Y, .slice aa m ac, .int .i64 ta] 45))
        have KT := hide (show ∀ u, Below (wr.alloc (.cells #[.int .i64 κ, .string X, .string Y, .slice aa m ac, .int .i64 ta] 45)).heap.size (wr.alloc (.cells #[.int .i64 κ, .string X, .string Y, .slice aa m ac, .int .i64 ta] 45)) u → u.cell? ⟨wr.heap.size, 0, none⟩ = some (.int .i64 κ) ∧ u.cell? ⟨wr.heap.size, 1, none⟩ = some (.string X) ∧ u.cell? ⟨wr.heap.size, 2, none⟩ = some (.string Y) ∧ u.cell? ⟨wr.heap.size, 3, none⟩ = some (.slice aa m ac) ∧ u.cell? ⟨wr.heap.size, 4, none⟩ = some (.int .i64 ta) from fun u hu => cells5 ((Blk.new wr #[.int .i64 κ, .string X, .string Y, .slice aa m ac, .int .i64 ta] 45).below hu))
        clear hmem hok h16 hsz hsl hs2 hszz hm hF hfl j2 j3 hal hcap hjl hjl2
        go_wp2_with (first
          | (go_at_call 26; refine (CS.out _ HAL.out).mono ?_; rintro e w2 ⟨rfl, h1⟩; obtain ⟨g0, g1, g2, g3, g4⟩ := KT.out w2 h1; have HZ := hide (HAL.out.trans (h1.mono HAL.out.size)); clear h1)
          | (go_at_call 27; refine (CW.out _ (J3.out.trans (HZ.out.mono J3.out.size)) (J2.out.below HZ.out)).mono ?_; rintro e w3 ⟨rfl, h2, h3⟩; have R2 := hide h2; have R3 := hide ((J3.out.trans (HZ.out.mono J3.out.size)).trans h3.below); clear h2 h3)
          | (go_at_call 28; refine (blen_any _ _ _ _ R2.out).mono ?_; rintro e w4 ⟨rfl, h4⟩; subst w4; rw [HFL.out]))
        go_roundw
        case rel => exact ⟨j + 1, by go_num, hide ⟨by omega, by rw [HF.out]; exact R2.out, R3.out⟩⟩
        case measure => simp [RowKit.intOf]; omega
      · have hj' : ¬ (j : Int) < (n : Int) := by omega
        rw [List.take_of_length_le (by have := HN.out; omega), HT.out] at j2
        have J2 := hide j2
        have J3 := hide j3
        clear j2 j3 hjl
        go_wp2_with (first
          | (go_at_call 29; refine (bstr_any w1.heap.size w1.heap.size _ _ J2.out J3.out.size).mono ?_; rintro e w4 ⟨rfl, hb4⟩))
        go_ret2
        exact ⟨rfl, H1.out.trans ((J3.out.trans hb4).mono H1.out.size)⟩
set_option maxHeartbeats 1000000 in
theorem rName_any (x : List UInt8) (w : World) (hs : x.length ≤ 1048576) :
    Calls Tryd.prog 50 #[.string ⟨x.toArray⟩] w fun e w' => e = .returned (.bool (isNm x)) ∧ w' = w := by
  have CN := fun w => rname_any ⟨x.toArray⟩ 0 w (by rw [size_m]; omega) (by omega)
  rw [mk_l, List.drop_zero] at CN
  have CN := hide CN
  have hsz := size_m x
  rw [isNm_ref]
  obtain ⟨m, hm⟩ : ∃ m, nmL x = m := ⟨_, rfl⟩
  rw [hm] at CN ⊢
  rw [← hsz] at hs ⊢
  generalize (⟨x.toArray⟩ : ByteArray) = X at *
  have hsi : (X.size : Int) ≤ 1048576 := by omega
  by_cases h1 : 1 ≤ X.size
  · have h1' : (1 : Int) ≤ (X.size : Int) := by omega
    by_cases h2 : X.size ≤ 16
    · have h2' : (X.size : Int) ≤ 16 := by omega
      rw [decide_eq_true h1, decide_eq_true h2]
      have h3 : ((m : Int) == (X.size : Int)) = decide (m = X.size) := by
        rw [Bool.eq_iff_iff, beq_iff_eq, decide_eq_true_eq]; omega
      obtain ⟨B, hB⟩ : ∃ B, decide (m = X.size) = B := ⟨_, rfl⟩
      rw [hB] at h3 ⊢
      clear hm hs h1 h2 hB hsz
      go_enter Tryd.func50, Tryd.ntmps50
      go_wp2_with (first | (go_at_call 43; refine (CN.out _).mono ?_; rintro e w1 ⟨rfl, hy⟩; subst w1))
      go_ret
      exact ⟨by simp, rfl⟩
    · have h2' : ¬ (X.size : Int) ≤ 16 := by omega
      rw [decide_eq_true h1, decide_eq_false h2]
      clear hm hs h1 h2 hsz
      go_enter Tryd.func50, Tryd.ntmps50
      go_wp2_with fail
      go_ret
      exact ⟨by simp, rfl⟩
  · have h1' : ¬ (1 : Int) ≤ (X.size : Int) := by omega
    rw [decide_eq_false h1]
    clear hm hs h1 hsz
    go_enter Tryd.func50, Tryd.ntmps50
    go_wp2_with fail
    go_ret
    exact ⟨by simp, rfl⟩
def RoR (w : World) (t : Tg) (e : Ending) (w' : World) : Prop := Below w.heap.size w w' ∧ ∃ y : ByteArray, e = .returned (.tuple #[.string y, .bool (okT t)]) ∧ (okT t = true → y.data.toList = txT t)
theorem esc_nil2 {l : List UInt8} : esc l = [] ↔ l = [] := ⟨fun h => by
  by_cases hl : l = []
  · exact hl
  · exact absurd h (gesc_ne hl), fun h => by rw [h]; rfl⟩
set_option maxHeartbeats 4000000 in
theorem rone_4 (t : Tg) (aa : Option Addr) (ac : Nat) (w : World) (h4 : t.k = 4) (hbt : t.t.length ≤ 65536) (hbn : t.ps.length ≤ 17592186044416) :
    Calls Tryd.prog 30 #[tgv t aa ac] w (RoR w t) := by
  obtain ⟨k, x, tt, ps, a⟩ := t
  simp only at h4 hbt hbn
  subst h4
  have hR : okT ⟨4, x, tt, ps, a⟩ = (decide (x = []) && decide (ps.length = 0) && !decide (tt = []) && pln tt) := rfl
  have hT : txT ⟨4, x, tt, ps, a⟩ = esc tt := rfl
  unfold RoR
  rw [hR, hT]
  dsimp only [tgv]
  have CE := fun w => rescape_any ⟨tt.toArray⟩ w (by rw [size_m]; omega)
  rw [mk_l] at CE
  have hpe := pln_esc tt
  have hpt := @pln_txt tt
  obtain ⟨⟨Z, E⟩, hZE⟩ : ∃ R, escV tt = R := ⟨_, rfl⟩
  rw [hZE] at CE hpe hpt
  simp only at CE hpe hpt
  have ex := str_emp x
  have ez := str_emp Z
  have hzl := mk_l Z
  obtain ⟨n, hn⟩ : ∃ n, ps.length = n := ⟨_, rfl⟩
  have en := int_z n
  have hni : (n : Int) ≤ 17592186044416 := by omega
  rw [hn] at ⊢
  clear hbt hbn hn hR hT hZE
  generalize (⟨x.toArray⟩ : ByteArray) = X at *
  generalize (⟨tt.toArray⟩ : ByteArray) = Y at *
  generalize (⟨Z.toArray⟩ : ByteArray) = ZZ at *
  have HB0 := hide ((Below.refl w.heap.size w).alloc (Nat.le_refl _) (.cells #[.int .i64 4, .string X, .string Y, .slice aa n ac, .int .i64 a] 45))
  have KT := hide (show ∀ u, Below (w.alloc (.cells #[.int .i64 4, .string X, .string Y, .slice aa n ac, .int .i64 a] 45)).heap.size (w.alloc (.cells #[.int .i64 4, .string X, .string Y, .slice aa n ac, .int .i64 a] 45)) u → u.cell? ⟨w.heap.size, 0, none⟩ = some (.int .i64 4) ∧ u.cell? ⟨w.heap.size, 1, none⟩ = some (.string X) ∧ u.cell? ⟨w.heap.size, 2, none⟩ = some (.string Y) ∧ u.cell? ⟨w.heap.size, 3, none⟩ = some (.slice aa n ac) ∧ u.cell? ⟨w.heap.size, 4, none⟩ = some (.int .i64 a) from fun u hu => cells5 ((Blk.new w #[.int .i64 4, .string X, .string Y, .slice aa n ac, .int .i64 a] 45).below hu))
  by_cases hE : E = 0
  · subst hE
    have hpt' := hpt (by rw [hpe]; rfl)
    rw [show pln tt = true by rw [hpe]; rfl, Bool.and_true]
    have hzt : decide (Z = []) = decide (tt = []) := by rw [Bool.eq_iff_iff, decide_eq_true_eq, decide_eq_true_eq, hpt']; exact esc_nil2
    rw [hzt] at ez
    by_cases htt : tt = []
    · rw [decide_eq_true htt] at ez ⊢
      rw [show (decide (x = []) && decide (n = 0) && !true) = false by simp]
      have CE := hide CE
      clear hpe hpt hzt htt ex en hpt'
      go_enter Tryd.func30, Tryd.ntmps30
      go_wp2_with (first
        | (go_at_call 18; refine (CE.out _).mono ?_; rintro e w1 ⟨rfl, h1⟩; obtain ⟨g0, g1, g2, g3, g4⟩ := KT.out w1 h1; have HZ := hide (HB0.out.trans (h1.mono HB0.out.size)); clear h1))
      go_quiet (fail)
      go_wp2_with fail
      go_ret2
      exact ⟨HZ.out.trans ((below_drewN' _ _).mono HZ.out.size), _, rfl, by simp⟩
    · rw [decide_eq_false htt] at ez ⊢
      rw [show (!false) = true from rfl, Bool.and_true]
      by_cases hx : x = []
      · rw [decide_eq_true hx] at ex ⊢
        rw [Bool.true_and]
        obtain ⟨B, hB⟩ : ∃ B, decide (n = 0) = B := ⟨_, rfl⟩
        rw [hB] at en ⊢
        have CE := hide CE
        have HZT := hide (hzl.trans hpt')
        clear hpe hpt hzt htt hx hB hpt' hzl
        go_enter Tryd.func30, Tryd.ntmps30
        go_wp2_with (first
          | (go_at_call 18; refine (CE.out _).mono ?_; rintro e w1 ⟨rfl, h1⟩; obtain ⟨g0, g1, g2, g3, g4⟩ := KT.out w1 h1; have HZ := hide (HB0.out.trans (h1.mono HB0.out.size)); clear h1))
        go_quiet (fail)
        go_wp2_with fail
        go_ret2
        exact ⟨HZ.out.trans ((below_drewN' _ _).mono HZ.out.size), _, rfl, fun _ => HZT.out⟩
      · rw [decide_eq_false hx] at ex ⊢
        rw [Bool.false_and]
        have CE := hide CE
        clear hpe hpt hzt htt hx hpt' hzl en
        go_enter Tryd.func30, Tryd.ntmps30
        go_wp2_with (first
          | (go_at_call 18; refine (CE.out _).mono ?_; rintro e w1 ⟨rfl, h1⟩; obtain ⟨g0, g1, g2, g3, g4⟩ := KT.out w1 h1; have HZ := hide (HB0.out.trans (h1.mono HB0.out.size)); clear h1))
        go_quiet (fail)
        go_wp2_with fail
        go_ret2
        exact ⟨HZ.out.trans ((below_drewN' _ _).mono HZ.out.size), _, rfl, by simp⟩
  · have fE : (E == 0) = false := by rw [beq_eq_false_iff_ne]; exact hE
    rw [show pln tt = false by rw [hpe]; exact decide_eq_false hE, Bool.and_false]
    have CE := hide CE
    clear hpe hpt hE hzl ex en ez
    go_enter Tryd.func30, Tryd.ntmps30
    go_wp2_with (first
      | (go_at_call 18; refine (CE.out _).mono ?_; rintro e w1 ⟨rfl, h1⟩; obtain ⟨g0, g1, g2, g3, g4⟩ := KT.out w1 h1; have HZ := hide (HB0.out.trans (h1.mono HB0.out.size)); clear h1))
    go_quiet (fail)
    go_wp2_with fail
    go_ret2
    exact ⟨HZ.out.trans ((below_drewN' _ _).mono HZ.out.size), _, rfl, by simp⟩
end Go.Proofs.YtpmdekhjodhdmaaDoor.K17
