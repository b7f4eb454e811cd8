/-
  Joined: K17Mf, K17Mg, K17Ml, K17Mk, K17Bp.
-/
import Derived.BigQuiet
import Derived.Deep.QuietTactic
import Derived.Test.YtpmdekhjodhdmaaDoorR19
import Derived.Test.YtpmdekhjodhdmaaDoorR21
namespace Go.Proofs.YtpmdekhjodhdmaaDoor.K17
open Go.RowKit Go.Proofs.YtpmdekhjodhdmaaDoor
open Go.Lib
set_option linter.unusedVariables false
set_option linter.unusedSimpArgs false
set_option maxRecDepth 100000
theorem blen_any (B b : Nat) (l : List UInt8) (w : World) (h : Bd w B b l) :
    Calls Tryd.prog 28 #[.pointer (some ⟨b, 0, none⟩)] w fun e w' => e = .returned (.int .i64 ((l.length : Nat) : Int)) ∧ w' = w := by
  have hv : ∃ ao cap, w.cell? ⟨b, 1, none⟩ = some (.slice ao l.length cap) := by
    rcases h with ⟨_, v, hbk, hown, _⟩ | ⟨_, v, hbk, hown, _⟩ <;>
    · obtain ⟨_, ⟨hv, hz⟩ | ⟨g, cap, cur, hv, _⟩⟩ := hown
      · rw [List.length_map] at hz
        refine ⟨none, 0, ?_⟩
        rw [Lib.cell_of_heap hbk, hz, hv]; rfl
      · refine ⟨some ⟨g, 0, none⟩, cap, ?_⟩
        rw [Lib.cell_of_heap hbk, hv, List.length_map]; rfl
  obtain ⟨ao, cap, hc⟩ := hv
  obtain ⟨n, hn⟩ : ∃ n, l.length = n := ⟨_, rfl⟩
  rw [hn] at hc ⊢
  clear h hn
  go_enter Tryd.func28, Tryd.ntmps28
  go_wp2_with fail
  go_ret
  exact ⟨rfl, rfl⟩
theorem Wr.blk {B b : Nat} {w w' : World} (h : Wr B b w w') {j : Nat} {cs : Array Value} {t : TypeId} (hk : Blk w j cs t) (hj : j ≠ b) (ht : t ≠ 5) : Blk w' j cs t :=
  h.oth j _ hk (by simpa using hj) (fun c fz he => by injection he with _ e _; exact ht e)
theorem cat17 (a b : ByteArray) : (a ++ b).data.toList = a.data.toList ++ b.data.toList := by
  rw [ByteArray.data_append]; simp
structure WS (w0 w : World) (B b j : Nat) (cs : Array Value) (l : List UInt8) (cur : World) : Prop where
  bd : Bd cur B b l
  le : l.length ≤ 1500000000
  sz : B ≤ cur.heap.size
  wr : Wr B b w cur
  bl : Blk cur j cs 45
  ne : j ≠ b
  old : Below w0.heap.size w0 cur
  oB : w0.heap.size = B
theorem WS.next {w0 w : World} {B b j : Nat} {cs : Array Value} {l l2 : List UInt8} {cur cur' : World} (h : WS w0 w B b j cs l cur) (h1 : Bd cur' B b l2) (k1 : Wr B b cur cur') (hl : l2.length ≤ 1500000000) : WS w0 w B b j cs l2 cur' :=
  ⟨h1, hl, Nat.le_trans h.sz k1.below.size, h.wr.trans k1, k1.blk h.bl h.ne (by decide), h.ne, h.old.trans (by rw [h.oB]; exact k1.below), h.oB⟩
theorem WS.al {w0 w : World} {B b j : Nat} {cs : Array Value} {l : List UInt8} {cur : World} (h : WS w0 w B b j cs l cur) (o : Obj) : WS w0 w B b j cs l (cur.alloc o) :=
  have hb : Below cur.heap.size cur (cur.alloc o) := (Below.refl _ _).alloc (Nat.le_refl _) _
  ⟨h.bd.below hb, h.le, Nat.le_trans h.sz hb.size, h.wr.alloc h.sz o, h.bl.below hb, h.ne, h.old.alloc (by rw [h.oB]; exact h.sz) o, h.oB⟩
theorem WS.eq {w0 w : World} {B b j : Nat} {cs : Array Value} {l l2 : List UInt8} {cur : World} (h : WS w0 w B b j cs l cur) (e : l = l2) : WS w0 w B b j cs l2 cur := e ▸ h
theorem wstr_ws {w0 w : World} {B b j : Nat} {cs : Array Value} {l : List UInt8} {cur : World} (S : Hid (WS w0 w B b j cs l cur)) (s : ByteArray) (q : List UInt8) (hq : s.data.toList = q) (hl : l.length + q.length ≤ 1500000000) :
    Calls Tryd.prog 49 #[.pointer (some ⟨b, 0, none⟩), .string s] cur fun e w' => e = .returned (.tuple #[.int .i64 s.size, .nilIface]) ∧ WS w0 w B b j cs (l ++ q) w' := by
  subst hq
  have hz := size_l s
  exact (wstr_any B b l s cur S.out.bd (by omega) S.out.sz).mono fun e w' ⟨h1, h2, h3⟩ => ⟨h1, S.out.next h2 h3 (by rw [List.length_append]; omega)⟩
theorem esc_ws {w0 w : World} {B b j : Nat} {cs : Array Value} {l : List UInt8} {cur : World} (S : Hid (WS w0 w B b j cs l cur)) (s : ByteArray) (q : List UInt8) (hq : s.data.toList = q) (hv : Vt q) (hl : l.length + 6 * q.length ≤ 1500000000) :
    Calls Tryd.prog 33 #[.pointer (some ⟨b, 0, none⟩), .string s] cur fun e w' => e = .returned (.tuple #[]) ∧ WS w0 w B b j cs (l ++ esc q) w' := by
  subst hq
  have hz := size_l s
  have he := esc_len s.data.toList
  exact (escape_any B b l s cur S.out.bd S.out.sz (by omega) hv).mono fun e w' ⟨h1, h2, h3⟩ => ⟨h1, S.out.next h2 h3 (by rw [List.length_append]; omega)⟩
theorem pln_vt {l : List UInt8} (h : pln l = true) : Vt l := by
  unfold pln at h
  rw [Bool.and_eq_true] at h
  exact (valid_iff l).1 h.1
theorem okA_pln {ps : List At} (h : okA ps = true) : ps.length ≤ 16 ∧ ∀ p ∈ ps, pln p.2 = true := by
  unfold okA at h
  rw [Bool.and_eq_true, decide_eq_true_eq] at h
  refine ⟨h.1, fun p hp => ?_⟩
  obtain ⟨i, hi, rfl⟩ := List.mem_iff_getElem.1 hp
  have := allN_iff.1 h.2 i hi
  unfold okA1 at this
  rw [List.getD_eq_getElem?_getD, List.getElem?_eq_getElem hi] at this
  simp only [Option.getD_some, Bool.and_eq_true] at this
  exact this.2
theorem okT_cases {t : Tg} (h : okT t = true) : (t.k = 4 ∧ pln t.t = true) ∨ (t.k = 2 ∧ t.ps.length = 0) ∨ ((t.k = 1 ∨ t.k = 3) ∧ t.ps.length ≤ 16 ∧ ∀ p ∈ t.ps, pln p.2 = true) := by
  unfold okT at h
  split at h
  · rename_i h4
    simp only [Bool.and_eq_true] at h
    exact Or.inl ⟨h4, h.2⟩
  · split at h
    · rename_i h2
      simp only [Bool.and_eq_true, decide_eq_true_eq] at h
      exact Or.inr (Or.inl ⟨h2, h.1.2⟩)
    · split at h
      · rename_i h13
        simp only [Bool.and_eq_true] at h
        exact Or.inr (Or.inr ⟨h13, okA_pln h.1.2⟩)
      · simp at h
theorem cells5 {cur : World} {j : Nat} {x0 x1 x2 x3 x4 : Value} {t : TypeId} (h : Blk cur j #[x0, x1, x2, x3, x4] t) : cur.cell? ⟨j, 0, none⟩ = some x0 ∧ cur.cell? ⟨j, 1, none⟩ = some x1 ∧ cur.cell? ⟨j, 2, none⟩ = some x2 ∧ cur.cell? ⟨j, 3, none⟩ = some x3 ∧ cur.cell? ⟨j, 4, none⟩ = some x4 :=
  ⟨by simpa using h.cell 0, by simpa using h.cell 1, by simpa using h.cell 2, by simpa using h.cell 3, by simpa using h.cell 4⟩
set_option maxHeartbeats 8000000 in
theorem write_any (t : Tg) (aa : Option Addr) (ac : Nat) (w0 w : World) (B b : Nat) (acc : List UInt8) (hok : okT t = true) (hm : TgM t) (hA : ALs w0 aa t.ps) (hb0 : Below w0.heap.size w0 w) (hB : w0.heap.size = B) (hbd : Bd w B b acc) (hl : acc.length ≤ 1000000000) :
    Calls Tryd.prog 27 #[.pointer (some ⟨b, 0, none⟩), tgv t aa ac] w fun e w' => e = .returned (.tuple #[]) ∧ Bd w' B b (acc ++ txT t) ∧ Wr B b w w' := by
  obtain ⟨hbx, hbt, hbn, hba⟩ := hm
  have hcs := okT_cases hok
  obtain ⟨k, x, tt, ps, a⟩ := t
  simp only at hbx hbt hbn hba hA hcs
  have htx : txT ⟨k, x, tt, ps, a⟩ = if k = 4 then esc tt else if k = 2 then [60, 47] ++ x ++ [62] else [60] ++ x ++ ps.flatMap aT ++ (if k = 3 then [47] else []) ++ [62] := rfl
  rw [htx]
  dsimp only [tgv]
  obtain ⟨n, hn⟩ : ∃ n, ps.length = n := ⟨_, rfl⟩
  rw [hn] at hcs hba ⊢
  have hX := mk_l x
  have hY := mk_l tt
  generalize (⟨x.toArray⟩ : ByteArray) = X at *
  generalize (⟨tt.toArray⟩ : ByteArray) = Y at *
  have hbl := hbd.lt
  have hBw : B ≤ w.heap.size := by rw [← hB]; exact hb0.size
  have S0 := hide (show WS w0 w B b w.heap.size #[.int .i64 k, .string X, .string Y, .slice aa n ac, .int .i64 a] acc (w.alloc (.cells #[.int .i64 k, .string X, .string Y, .slice aa n ac, .int .i64 a] 45)) from
    ⟨hbd.below ((Below.refl _ _).alloc (Nat.le_refl _) _), by omega, by simp; omega, (Wr.refl _ _ _).alloc hBw _, Blk.new _ _ _, by omega, hb0.alloc (by omega) _, hB⟩)
  have HX := hide hX
  have HY := hide hY
  have HL := hide (show acc.length ≤ 1000000000 ∧ x.length ≤ 1048576 ∧ tt.length ≤ 1048576 by omega)
  have HA := hide hA
  have HN := hide hn
  have hbn2 : w.heap.size ≠ b := by omega
  clear hok htx hbd hX hY hl hbx hbt hA hn hbl
  rcases hcs with ⟨h4, hp⟩ | ⟨h2, h0⟩ | ⟨h13, h16, hp⟩
  · subst h4
    rw [if_pos rfl]
    have HV := hide (pln_vt hp)
    clear hp hba hbn hb0 hB hBw
    go_enter Tryd.func27, Tryd.ntmps27
    go_wp2_with (first
      | (go_at_call 33; refine (esc_ws S0 _ tt HY.out HV.out (by have := HL.out; omega)).mono ?_; rintro e v1 ⟨rfl, h1⟩; have S1 := hide h1; clear h1))
    refine bodyPost_ret (v := .tuple #[]) (results_none rfl _ _ _) rfl ?_
    exact ⟨rfl, S1.out.bd, S1.out.wr⟩
  · subst h2
    subst h0
    rw [if_neg (by decide), if_pos rfl]
    clear hba hbn hb0 hB hBw
    go_enter Tryd.func27, Tryd.ntmps27
    go_wp2_with (first
      | (go_at_call 49; refine (wstr_ws S0 _ [60] rfl (by have := HL.out; simp; omega)).mono ?_; rintro e vS1 ⟨rfl, h1⟩; have S1 := hide h1; obtain ⟨c0, c1, c2, c3, c4⟩ := cells5 h1.bl; clear h1 S0)
      | (go_at_call 49; refine (wstr_ws S1 _ [47] rfl (by have := HL.out; simp; omega)).mono ?_; rintro e vS2 ⟨rfl, h1⟩; have S2 := hide h1; obtain ⟨c0, c1, c2, c3, c4⟩ := cells5 h1.bl; clear h1 S1)
      | (go_at_call 49; refine (wstr_ws S2 _ x HX.out (by have := HL.out; simp; omega)).mono ?_; rintro e vS3 ⟨rfl, h1⟩; have S3 := hide h1; obtain ⟨c0, c1, c2, c3, c4⟩ := cells5 h1.bl; clear h1 S2))
    go_loopw [27] (fun vi wr => vi = .int .i64 0 ∧ wr = vS3) (fun vi _ => 0)
    case atStart => exact ⟨rfl, rfl⟩
    case round =>
      obtain ⟨rfl, rfl⟩ := hrel
      go_wp2_with (first
        | (go_at_call 49; refine (wstr_ws S3 _ [62] rfl (by have := HL.out; simp; omega)).mono ?_; rintro e vS4 ⟨rfl, h1⟩; have S4 := hide h1; obtain ⟨c0, c1, c2, c3, c4⟩ := cells5 h1.bl; clear h1))
      go_end0
      exact ⟨rfl, by have := S4.out.bd; simpa using this, S4.out.wr⟩
  · have h4 : ¬ k = 4 := by rcases h13 with rfl | rfl <;> decide
    have h2 : ¬ k = 2 := by rcases h13 with rfl | rfl <;> decide
    rw [if_neg h4, if_neg h2]
    have f4 : (k == 4) = false := by rw [beq_eq_false_iff_ne]; exact h4
    have f2 : (k == 2) = false := by rw [beq_eq_false_iff_ne]; exact h2
    have HP := hide (fun p hq => And.intro (hp p hq) (hba h16 p hq))
    have hni : (n : Int) ≤ 16 := by omega
    have H16 := hide h16
    have H13 := hide h13
    clear hba hbn hp h13 h16 h4 h2 hb0 hB hBw
    go_enter Tryd.func27, Tryd.ntmps27
    go_wp2_with (first
      | (go_at_call 49; refine (wstr_ws S0 _ [60] rfl (by have := HL.out; simp; omega)).mono ?_; rintro e vS1 ⟨rfl, h1⟩; have S1 := hide h1; obtain ⟨c0, c1, c2, c3, c4⟩ := cells5 h1.bl; clear h1 S0)
      | (go_at_call 49; refine (wstr_ws S1 _ x HX.out (by have := HL.out; simp; omega)).mono ?_; rintro e vS3 ⟨rfl, h1⟩; have S3 := hide h1; obtain ⟨c0, c1, c2, c3, c4⟩ := cells5 h1.bl; clear h1 S1))
    go_loopw [27] (fun vi wr => ∃ j : Nat, vi = .int .i64 j ∧ Hid (j ≤ n ∧ WS w0 w B b w.heap.size #[.int .i64 k, .string X, .string Y, .slice aa n ac, .int .i64 a] (acc ++ [60] ++ x ++ (ps.take j).flatMap aT) wr)) (fun vi _ => n - (RowKit.intOf vi).toNat)
    case atStart => exact ⟨0, rfl, hide ⟨by omega, by simpa using S3.out⟩⟩
    case round =>
      obtain ⟨j, rfl, HJ⟩ := hrel
      obtain ⟨j1, j2⟩ := HJ.out
      clear HJ c0 c1 c2 c3 c4
      obtain ⟨c0, c1, c2, c3, c4⟩ := cells5 j2.bl
      by_cases hj : j < n
      · have hj' : (j : Int) < (n : Int) := by omega
        rcases HA.out.below j2.old with h0 | ⟨pb, off, rfl, hlt, hcell⟩
        · have := HN.out; rw [h0] at this; simp at this; omega
        obtain ⟨d0, d1⟩ := hcell j (by have := HN.out; omega)
        have hfl := flat_take aT ([], []) ps j (by have := HN.out; omega)
        have hmem : ps.getD j ([], []) ∈ ps := by rw [List.getD_eq_getElem?_getD, List.getElem?_eq_getElem (by have := HN.out; omega)]; exact List.getElem_mem _
        obtain ⟨hpl, hz1, hz2⟩ := HP.out _ hmem
        generalize ps.getD j ([], []) = q at *
        obtain ⟨q1, q2⟩ := q
        simp only at d0 d1 hpl hz1 hz2
        have hQ1 := mk_l q1
        have hQ2 := mk_l q2
        generalize (⟨q1.toArray⟩ : ByteArray) = Q1 at *
        generalize (⟨q2.toArray⟩ : ByteArray) = Q2 at *
        obtain ⟨L, hL⟩ : ∃ L, acc ++ [60] ++ x ++ (ps.take j).flatMap aT = L := ⟨_, rfl⟩
        have hLl : L.length ≤ 1300000000 := by
          rw [← hL]
          have h1 := ats_len (ps.take j)
          have h2 := szA_bd (ps.take j) 1048576 (fun p hp => (HP.out p (List.mem_of_mem_take hp)).2)
          have h3 : (ps.take j).length ≤ 16 := by rw [List.length_take]; have := HN.out; have := H16.out; omega
          have := HL.out
          simp only [List.length_append, List.length_cons, List.length_nil]
          omega
        rw [hL] at j2
        have hq1z : (Q1.size : Int) ≤ 1048576 := by have := size_l Q1; rw [hQ1] at this; omega
        have HCT := hide (show (({ data := #[32] } : ByteArray) ++ Q1 ++ ({ data := #[61, 34] } : ByteArray)).data.toList = [32] ++ q1 ++ [61, 34] by rw [cat17, cat17, hQ1])
        have HQ2 := hide hQ2
        have HLL := hide (show L.length ≤ 1300000000 ∧ q1.length ≤ 1048576 ∧ q2.length ≤ 1048576 from ⟨hLl, hz1, hz2⟩)
        have HVQ := hide (pln_vt hpl)
        have T0 := hide (j2.al (.cells #[.string Q1, .string Q2] 47))
        have TA := hide (Blk.new wr #[.string Q1, .string Q2] 47)
        have hbr : wr.heap.size ≠ b := by have := j2.bd.lt; omega
        have HFL := hide (show L ++ ([32] ++ q1 ++ [61, 34]) ++ esc q2 ++ [34] = acc ++ [60] ++ x ++ (ps.take (j + 1)).flatMap aT by
          rw [hfl, ← hL]; unfold aT; simp only [List.append_assoc])
        have HBR := hide hbr
        clear hcell hfl hmem hpl hz1 hz2 hQ1 hQ2 hL hLl j2
        go_wp2_with (first
          | (go_at_call 49; refine (wstr_any B b _ _ _ T0.out.bd (by have := size_l (({ data := #[32] } : ByteArray) ++ Q1 ++ ({ data := #[61, 34] } : ByteArray)); rw [HCT.out] at this; have := HLL.out; simp at *; omega) T0.out.sz).mono ?_; rintro e v1 ⟨rfl, h1, k1⟩; rw [HCT.out] at h1; have T1 := hide (T0.out.next h1 k1 (by have := HLL.out; simp; omega)); have TB := hide (k1.blk TA.out HBR.out (by decide)); have d4 := TB.out.cell 0; have d5 := TB.out.cell 1; simp at d4 d5; clear h1 k1 TA T0)
          | (go_at_call 33; refine (escape_any B b _ _ _ T1.out.bd T1.out.sz (by have := size_l Q2; rw [HQ2.out] at this; have := HLL.out; simp; omega) (by rw [HQ2.out]; exact HVQ.out)).mono ?_; rintro e v2 ⟨rfl, h1, k1⟩; rw [HQ2.out] at h1; have T2 := hide (T1.out.next h1 k1 (by have := HLL.out; have := esc_len q2; simp; omega)); clear h1 k1 T1)
          | (go_at_call 49; refine (wstr_ws T2 _ [34] rfl (by have := HLL.out; have := esc_len q2; simp; omega)).mono ?_; rintro e v3 ⟨rfl, h1⟩; have T3 := hide h1; clear h1))
        go_roundw
        case rel => exact ⟨j + 1, by go_num, hide ⟨by omega, T3.out.eq HFL.out⟩⟩
        case measure => simp [RowKit.intOf]; omega
      · have hj' : ¬ (j : Int) < (n : Int) := by omega
        rw [List.take_of_length_le (by have := HN.out; omega)] at j2
        have hLl : (acc ++ [60] ++ x ++ ps.flatMap aT).length ≤ 1300000000 := by
          have h1 := ats_len ps
          have h2 := szA_bd ps 1048576 (fun p hp => (HP.out p hp).2)
          have := HN.out; have := H16.out; have := HL.out
          simp only [List.length_append, List.length_cons, List.length_nil]
          omega
        have HLL := hide hLl
        have S4 := hide j2
        clear j2 hLl
        rcases H13.out with rfl | rfl
        · go_wp2_with (first
            | (go_at_call 49; refine (wstr_ws S4 _ [62] rfl (by have := HLL.out; simp at *; omega)).mono ?_; rintro e v5 ⟨rfl, h1⟩; have S5 := hide h1; clear h1))
          go_end0
          exact ⟨rfl, by have := S5.out.bd; simpa using this, S5.out.wr⟩
        · go_wp2_with (first
            | (go_at_call 49; refine (wstr_ws S4 _ [47] rfl (by have := HLL.out; simp at *; omega)).mono ?_; rintro e v5 ⟨rfl, h1⟩; have S5 := hide h1; clear h1 S4)
            | (go_at_call 49; refine (wstr_ws S5 _ [62] rfl (by have := HLL.out; simp at *; omega)).mono ?_; rintro e v6 ⟨rfl, h1⟩; have S6 := hide h1; clear h1))
          go_end0
          exact ⟨rfl, by have := S6.out.bd; simpa using this, S6.out.wr⟩
theorem okT_16 {t : Tg} (h : okT t = true) : t.ps.length ≤ 16 := by
  unfold okT at h
  split at h
  · simp only [Bool.and_eq_true, decide_eq_true_eq] at h; omega
  · split at h
    · simp only [Bool.and_eq_true, decide_eq_true_eq] at h; omega
    · split at h
      · simp only [Bool.and_eq_true, okA, decide_eq_true_eq] at h; omega
      · simp at h
theorem szT_16 {t : Tg} (h : t.ps.length ≤ 16) : t.x.length + t.t.length + szA t.ps ≤ szT t := by
  unfold szT
  rw [List.take_of_length_le (by omega)]; omega
set_option maxHeartbeats 1000000 in
theorem print_any (a : Option Addr) (cap n : Nat) (ts : List Tg) (w : World) (hg : Glo w) (hn : ts.length = n) (h6 : n ≤ 1000000) (h : GLs w a ts) (hb : ∀ t ∈ ts, TgM t) (hs : szL ts ≤ 100000) :
    Calls Tryd.prog 15 #[.slice a n cap] w fun e w' => e = .returned (.tuple #[.string ⟨(prV ts).1.toArray⟩, .int .i64 (prV ts).2]) ∧ Below w.heap.size w w' := by
  have CA := hide (aretokens_any a cap n ts w hg hn (by omega) h hb)
  have h6' : (n : Int) ≤ 1000000 := by omega
  unfold prV
  cases hok : okL ts
  · rw [hok] at CA
    clear hg hn h hb hs hok
    go_enter Tryd.func15, Tryd.ntmps15
    go_wp2_with (first
      | (go_at_call 25; refine CA.out.mono ?_; rintro e w1 ⟨rfl, h1⟩))
    go_ret2
    exact ⟨rfl, h1⟩
  · rw [hok] at CA
    have HOK := hide (okL_mem hok)
    have HLN := hide (fun k => Nat.le_trans (prL_len (ts := ts.take k) (allN_iff.2 fun i hi => by
      rw [List.length_take] at hi
      have := allN_iff.1 hok i (by omega)
      unfold okL1 two at this ⊢
      rw [List.getD_eq_getElem?_getD, List.getD_eq_getElem?_getD, List.getElem?_take, List.getElem?_take, if_pos (by omega), if_pos (by omega)]
      rw [List.getD_eq_getElem?_getD, List.getD_eq_getElem?_getD] at this
      exact this)) (Nat.mul_le_mul_left 10 (sz_take ts k)))
    have HA := hide h
    have HN := hide hn
    have HB := hide hb
    have HS := hide hs
    obtain ⟨T, hT⟩ : ∃ T, ts.flatMap txT = T := ⟨_, rfl⟩
    rw [if_pos rfl, hT]
    have HT := hide hT
    clear hg hn h hb hs hok hT
    go_enter Tryd.func15, Tryd.ntmps15
    go_wp2_with (first
      | (go_at_call 25; refine CA.out.mono ?_; rintro e w1 ⟨rfl, h1⟩; have H1 := hide h1; clear h1))
    have HB0 := hide (Bd.new w1)
    have HB1 := hide ((Below.refl w1.heap.size w1).alloc (Nat.le_refl _) (.cells #[.pointer none, .slice none 0 0] 58))
    go_loopw [12] (fun vi wr => ∃ j : Nat, vi = .int .i64 j ∧ Hid (j ≤ n ∧ Bd wr w1.heap.size w1.heap.size ((ts.take j).flatMap txT) ∧ Below w1.heap.size w1 wr)) (fun vi _ => n - (RowKit.intOf vi).toNat)
    case atStart => exact ⟨0, rfl, hide ⟨by omega, HB0.out, HB1.out⟩⟩
    case round =>
      clear HB0 HB1 CA
      obtain ⟨j, rfl, HJ⟩ := hrel
      obtain ⟨j1, j2, j3⟩ := HJ.out
      clear HJ
      have hjl : ((ts.take j).flatMap txT).length ≤ 1000000 := by have := HLN.out j; have := HS.out; omega
      by_cases hj : j < n
      · have hj' : (j : Int) < (n : Int) := by omega
        have hjl2 : ((ts.take (j + 1)).flatMap txT).length ≤ 1000000 := by have := HLN.out (j + 1); have := HS.out; omega
        have hfl := flat_take txT tg0 ts j (by have := HN.out; omega)
        rcases HA.out.below (H1.out.trans (j3.mono H1.out.size)) with h0 | ⟨b, off, rfl, hlt, hcell⟩
        · have := HN.out; rw [h0] at this; simp at this; omega
        obtain ⟨aa, ac, c0, c1, c2, c3, c4, hal, hcap⟩ := hcell j (by have := HN.out; omega)
        have hal1 : ∃ aa', ∃ ac', wr.cell? ⟨b, off + j * 5 + 3, none⟩ = some (.slice aa' (ts.getD j tg0).ps.length ac') ∧ ALs w1 aa' (ts.getD j tg0).ps := by
          rcases HA.out.below H1.out with h0 | ⟨b', off', he, hlt', hcell'⟩
          · have := HN.out; rw [h0] at this; simp at this; omega
          · have e1 : b = b' := by injection he with he; injection he
            have e2 : off = off' := by injection he with he; injection he
            subst e1; subst e2
            obtain ⟨aa', ac', _, _, _, q3, _, qal, _⟩ := hcell' j (by have := HN.out; omega)
            exact ⟨aa', ac', by rw [j3.cell (p := ⟨b, off + j * 5 + 3, none⟩) hlt']; exact q3, qal⟩
        obtain ⟨aa', ac', q3, qal⟩ := hal1
        rw [c3] at q3
        have e1 : aa = aa' := by
          injection q3 with q3
          injection q3
        clear q3
        subst e1
        have hmem : ts.getD j tg0 ∈ ts := by rw [List.getD_eq_getElem?_getD, List.getElem?_eq_getElem (by have := HN.out; omega)]; exact List.getElem_mem _
        have hok := HOK.out _ hmem
        have h16 := okT_16 hok
        have hsz := szT_16 h16
        have hsl := sum_le szT ts _ hmem
        have hm := HB.out _ hmem
        have CS := fun w' (h : Below wr.heap.size wr w') => size_any (ts.getD j tg0) aa ac w' (hal.below h) h16 hm
        have CW := fun w' (hb0 : Below w1.heap.size w1 w') hbd => write_any (ts.getD j tg0) aa ac w1 w' w1.heap.size w1.heap.size ((ts.take j).flatMap txT) hok hm qal hb0 rfl hbd (by omega)
        rw [← hfl] at CW
        have hs2 : szT (ts.getD j tg0) ≤ 100000 := by have := HS.out; unfold szL at this; omega
        clear hcell hm qal hfl
        generalize ts.getD j tg0 = t at *
        obtain ⟨κ, x, tt, ps, ta⟩ := t
        simp only at c0 c1 c2 c3 c4 hal hcap hsz
        dsimp only [tgv] at CS CW
        obtain ⟨sz, hszz⟩ : ∃ sz, x.length + tt.length + szA ps = sz := ⟨_, rfl⟩
        rw [hszz] at CS hsz
        have hszi : (sz : Int) ≤ 100000 := by omega
        generalize (⟨x.toArray⟩ : ByteArray) = X at *
        generalize (⟨tt.toArray⟩ : ByteArray) = Y at *
        obtain ⟨m, hm⟩ : ∃ m, ps.length = m := ⟨_, rfl⟩
        rw [hm] at c3 CS CW
        obtain ⟨F, hF⟩ : ∃ F, (ts.take (j + 1)).flatMap txT = F := ⟨_, rfl⟩
        rw [hF] at CW hjl2
        obtain ⟨fl, hfl⟩ : ∃ fl, F.length = fl := ⟨_, rfl⟩
        have hfi : (fl : Int) ≤ 1000000 := by omega
        have HF := hide hF
        have HFL := hide hfl
        have CS := hide CS
        have CW := hide CW
        have J2 := hide j2
        have J3 := hide j3
        have HAL := hide ((Below.refl wr.heap.size wr).alloc (Nat.le_refl _) (.cells #[.int .i64 κ, .string X, .string Y, .slice aa m ac, .int .i64 ta] 45))
        have KT := hide (show ∀ u, Below (wr.alloc (.cells #[.int .i64 κ, .string X, .string Y, .slice aa m ac, .int .i64 ta] 45)).heap.size (wr.alloc (.cells #[.int .i64 κ, .string X, .string Y, .slice aa m ac, .int .i64 ta] 45)) u → u.cell? ⟨wr.heap.size, 0, none⟩ = some (.int .i64 κ) ∧ u.cell? ⟨wr.heap.size, 1, none⟩ = some (.string X) ∧ u.cell? ⟨wr.heap.size, 2, none⟩ = some (.string Y) ∧ u.cell? ⟨wr.heap.size, 3, none⟩ = some (.slice aa m ac) ∧ u.cell? ⟨wr.heap.size, 4, none⟩ = some (.int .i64 ta) from fun u hu => cells5 ((Blk.new wr #[.int .i64 κ, .string X, .string Y, .slice aa m ac, .int .i64 ta] 45).below hu))
        clear hmem hok h16 hsz hsl hs2 hszz hm hF hfl j2 j3 hal hcap hjl hjl2
        go_wp2_with (first
          | (go_at_call 26; refine (CS.out _ HAL.out).mono ?_; rintro e w2 ⟨rfl, h1⟩; obtain ⟨g0, g1, g2, g3, g4⟩ := KT.out w2 h1; have HZ := hide (HAL.out.trans (h1.mono HAL.out.size)); clear h1)
          | (go_at_call 27; refine (CW.out _ (J3.out.trans (HZ.out.mono J3.out.size)) (J2.out.below HZ.out)).mono ?_; rintro e w3 ⟨rfl, h2, h3⟩; have R2 := hide h2; have R3 := hide ((J3.out.trans (HZ.out.mono J3.out.size)).trans h3.below); clear h2 h3)
          | (go_at_call 28; refine (blen_any _ _ _ _ R2.out).mono ?_; rintro e w4 ⟨rfl, h4⟩; subst w4; rw [HFL.out]))
        go_roundw
        case rel => exact ⟨j + 1, by go_num, hide ⟨by omega, by rw [HF.out]; exact R2.out, R3.out⟩⟩
        case measure => simp [RowKit.intOf]; omega
      · have hj' : ¬ (j : Int) < (n : Int) := by omega
        rw [List.take_of_length_le (by have := HN.out; omega), HT.out] at j2
        have J2 := hide j2
        have J3 := hide j3
        clear j2 j3 hjl
        go_wp2_with (first
          | (go_at_call 29; refine (bstr_any w1.heap.size w1.heap.size _ _ J2.out J3.out.size).mono ?_; rintro e w4 ⟨rfl, hb4⟩))
        go_ret2
        exact ⟨rfl, H1.out.trans ((J3.out.trans hb4).mono H1.out.size)⟩
def LgG (n : Nat) (ts : List Tg) (w : World) (e : Ending) (w' : World) : Prop := ∃ b : Bool, e = .returned (.bool b) ∧ (b = false → n ≤ 400 ∧ szL ts ≤ 20000) ∧ Below w.heap.size w w'
theorem szL_succ (ts : List Tg) (j : Nat) (h : j < ts.length) : szL (ts.take (j + 1)) = szL (ts.take j) + szT (ts.getD j tg0) := sum_take szT tg0 ts j h
set_option maxHeartbeats 4000000 in
theorem long_any (a : Option Addr) (n c : Nat) (ts : List Tg) (w : World) (hT : GIn w a n ts) :
    Calls Tryd.prog 13 #[.slice a n c] w (LgG n ts w) := by
  have hni : (n : Int) ≤ 9223372036854775807 := by have := hT.most; omega
  have HN := hide hT.len
  have HL := hide hT.lst
  have HR := hide hT.rng
  clear hT
  go_enter Tryd.func13, Tryd.ntmps13
  go_wp2_with fail
  go_loopw [3, 4] (fun vn vi wr => ∃ (j N : Nat), vi = .int .i64 j ∧ vn = .int .i64 (N : Int) ∧ Hid (j ≤ n ∧ N = szL (ts.take j) ∧ N ≤ 20000000000000000 ∧ Below w.heap.size w wr)) (fun _ vi _ => n - (RowKit.intOf vi).toNat)
  case atStart => exact ⟨0, 0, rfl, rfl, hide ⟨by omega, by simp [szL], by omega, Below.refl _ _⟩⟩
  case round =>
    obtain ⟨j, N, rfl, rfl, HJ⟩ := hrel
    obtain ⟨j1, j2, j3, j4⟩ := HJ.out
    clear HJ
    by_cases hj : j < n
    · have hj' : (j : Int) < (n : Int) := by omega
      by_cases hN : N ≤ 20000
      · have hN' : (N : Int) ≤ 20000 := by omega
        rcases HL.out.below j4 with h0 | ⟨b, off, rfl, hlt, hcell⟩
        · have := HN.out; rw [h0] at this; simp at this; omega
        obtain ⟨aa, ac, c0, c1, c2, c3, c4, hal, hcap⟩ := hcell j (by have := HN.out; omega)
        have hmem : ts.getD j tg0 ∈ ts := by rw [List.getD_eq_getElem?_getD, List.getElem?_eq_getElem (by have := HN.out; omega)]; exact List.getElem_mem _
        have hsz := szL_succ ts j (by have := HN.out; omega)
        obtain ⟨_, _, rx, rt, rn, rp⟩ := HR.out _ hmem
        clear hcell hmem c0 c4
        generalize ts.getD j tg0 = t at *
        obtain ⟨κ, x, tt, ps, ta⟩ := t
        simp only at c1 c2 c3 hal hcap rx rt rn rp
        unfold szT at hsz
        simp only at hsz
        have sx := size_m' x
        have st := size_m' tt
        generalize (⟨x.toArray⟩ : ByteArray) = X at *
        generalize (⟨tt.toArray⟩ : ByteArray) = Y at *
        obtain ⟨m, hm⟩ : ∃ m, ps.length = m := ⟨_, rfl⟩
        rw [hm] at c3 hsz rn hcap
        obtain ⟨s1, h1⟩ : ∃ s1 : Nat, 1 + X.size = s1 := ⟨_, rfl⟩
        obtain ⟨s2, h2⟩ : ∃ s2 : Nat, s1 + Y.size = s2 := ⟨_, rfl⟩
        obtain ⟨s3, h3⟩ : ∃ s3 : Nat, s2 + m = s3 := ⟨_, rfl⟩
        obtain ⟨N1, h4⟩ : ∃ N1 : Nat, N + s3 = N1 := ⟨_, rfl⟩
        have e1 : (1 : Int) + (X.size : Int) = (s1 : Int) := by omega
        have e2 : (s1 : Int) + (Y.size : Int) = (s2 : Int) := by omega
        have e3 : (s2 : Int) + (m : Int) = (s3 : Int) := by omega
        have e4 : (N : Int) + (s3 : Int) = (N1 : Int) := by omega
        have bX : (X.size : Int) ≤ 140737488351232 := by omega
        have bY : (Y.size : Int) ≤ 140737488351232 := by omega
        have bm : (m : Int) ≤ 17592186044416 := by omega
        have b1 : (s1 : Int) ≤ 1000000000000000 := by omega
        have b2 : (s2 : Int) ≤ 1000000000000000 := by omega
        have b3 : (s3 : Int) ≤ 1000000000000000 := by omega
        have b4 : (N1 : Int) ≤ 1000000000000000 := by omega
        have HSZ := hide (show szL (ts.take (j + 1)) = N1 + szA (ps.take 40) by rw [hsz, ← j2]; omega)
        have HB1 := hide (show N1 ≤ 1000000000000000 by omega)
        have HM := hide hm
        have HP := hide rp
        have HAL := hide hal
        have HC3 := hide (show ∀ u, Below wr.heap.size wr u → u.cell? ⟨b, off + j * 5 + 3, none⟩ = some (.slice aa m ac) from fun u hu => by rw [hu.cell (p := ⟨b, off + j * 5 + 3, none⟩) hlt]; exact c3)
        have J4 := hide j4
        clear hsz sx st hm h1 h2 h3 h4 rx rt rn rp hal hcap j2 j3 j4 hN
        go_wp2_with fail
        go_quiet (fail)
        go_wp2_with fail
        go_loopw [3, 5] (fun vn vk wz => ∃ (i M : Nat), vk = .int .i64 i ∧ vn = .int .i64 (M : Int) ∧ Hid (i ≤ m ∧ i ≤ 40 ∧ M = N1 + szA (ps.take i) ∧ Below wr.heap.size wr wz)) (fun _ vk _ => m - (RowKit.intOf vk).toNat)
        case atStart => exact ⟨0, N1, rfl, rfl, hide ⟨by omega, by omega, by simp [szA], below_drewN' _ _⟩⟩
        case round =>
          obtain ⟨i, M, rfl, rfl, HI⟩ := hrel
          obtain ⟨i1, i2, i3, i4⟩ := HI.out
          clear HI c1 c2 c3
          have c3 := HC3.out _ i4
          have hsA : szA (ps.take i) ≤ 2 * 140737488351232 * i := by
            have := szA_bd (ps.take i) 140737488351232 (fun p hp => HP.out p (List.mem_of_mem_take hp))
            rw [List.length_take, show min i ps.length = i by have := HM.out; omega] at this
            exact this
          have hMb : M ≤ 15000000000000000 := by
            have := HB1.out
            have : 2 * 140737488351232 * i ≤ 2 * 140737488351232 * 40 := Nat.mul_le_mul_left _ i2
            omega
          by_cases hi : i < m ∧ i < 40
          · obtain ⟨hi1, hi2⟩ := hi
            have hi1' : (i : Int) < (m : Int) := by omega
            have hi2' : (i : Int) < 40 := by omega
            rcases HAL.out.below i4 with h0 | ⟨pb, po, rfl, plt, pcell⟩
            · have := HM.out; rw [h0] at this; simp at this; omega
            obtain ⟨d0, d1⟩ := pcell i (by have := HM.out; omega)
            have hsz := szA_succ ps i (by have := HM.out; omega)
            have hq := HP.out (ps.getD i ([], [])) (by rw [List.getD_eq_getElem?_getD, List.getElem?_eq_getElem (by have := HM.out; omega)]; exact List.getElem_mem _)
            clear pcell
            generalize ps.getD i ([], []) = q at *
            obtain ⟨q1, q2⟩ := q
            simp only at d0 d1 hsz hq
            have z1 := size_m' q1
            have z2 := size_m' q2
            generalize (⟨q1.toArray⟩ : ByteArray) = Q1 at *
            generalize (⟨q2.toArray⟩ : ByteArray) = Q2 at *
            obtain ⟨D, hD⟩ : ∃ D : Nat, Q1.size + Q2.size = D := ⟨_, rfl⟩
            obtain ⟨M1, hM1⟩ : ∃ M1 : Nat, M + D = M1 := ⟨_, rfl⟩
            have f1 : (Q1.size : Int) + (Q2.size : Int) = (D : Int) := by omega
            have f2 : (M : Int) + (D : Int) = (M1 : Int) := by omega
            have g1 : (Q1.size : Int) ≤ 140737488351232 := by omega
            have g2 : (Q2.size : Int) ≤ 140737488351232 := by omega
            have g3 : (D : Int) ≤ 1000000000000000 := by omega
            have g4 : (M1 : Int) ≤ 20000000000000000 := by omega
            have g5 : (M : Int) ≤ 15000000000000000 := by omega
            have HST := hide (show M1 = N1 + szA (ps.take (i + 1)) by omega)
            have I4 := hide i4
            clear hsz hq z1 z2 hD hM1 i3 i4 hsA hMb
            go_wp2_with fail
            go_quiet (fail)
            go_wp2_with fail
            go_roundw
            case rel => exact ⟨i + 1, M1, by go_num, rfl, hide ⟨by omega, by omega, HST.out, I4.out.trans (below_drewN' _ _ |>.mono I4.out.size)⟩⟩
            case measure => simp [RowKit.intOf]; omega
          · have hME : M = szL (ts.take (j + 1)) := by
              rw [HSZ.out, i3]
              congr 2
              by_cases h40 : i = 40
              · rw [h40]
              · have him : i = m := by omega
                rw [List.take_of_length_le (by have := HM.out; omega), List.take_of_length_le (by have := HM.out; omega)]
            have HME := hide hME
            have HMB := hide hMb
            have I4 := hide i4
            by_cases him : i < m
            · have h40 : i = 40 := by omega
              subst h40
              have him' : (40 : Int) < (m : Int) := by omega
              clear hME hMb i3 i4 hsA hi
              go_wp2_with fail
              go_roundw
              case rel => exact ⟨j + 1, M, by go_num, rfl, hide ⟨by omega, HME.out, by have := HMB.out; omega, J4.out.trans (I4.out.mono J4.out.size)⟩⟩
              case measure => simp [RowKit.intOf]; omega
            · have him' : ¬ (i : Int) < (m : Int) := by omega
              clear hME hMb i3 i4 hsA hi
              go_wp2_with fail
              go_roundw
              case rel => exact ⟨j + 1, M, by go_num, rfl, hide ⟨by omega, HME.out, by have := HMB.out; omega, J4.out.trans (I4.out.mono J4.out.size)⟩⟩
              case measure => simp [RowKit.intOf]; omega
      · have hN' : ¬ (N : Int) ≤ 20000 := by omega
        have hN2 : (20000 : Int) < (N : Int) := by omega
        have HE := hide (show LgG n ts w (.returned (.bool true)) wr from ⟨true, rfl, by simp, j4⟩)
        clear j2 j3 j4 hN
        go_wp2_with fail
        go_ret
        exact HE.out
    · have hj' : ¬ (j : Int) < (n : Int) := by omega
      have hjn : j = n := by omega
      rw [List.take_of_length_le (by have := HN.out; omega)] at j2
      by_cases hN : N ≤ 20000
      · have hN' : ¬ (20000 : Int) < (N : Int) := by omega
        by_cases h4 : n ≤ 400
        · have h4' : ¬ (400 : Int) < (n : Int) := by omega
          have HE := hide (show LgG n ts w (.returned (.bool false)) wr from ⟨false, rfl, fun _ => ⟨h4, by omega⟩, j4⟩)
          clear j2 j3 j4 hN h4 hjn
          go_wp2_with fail
          go_ret
          exact HE.out
        · have h4' : (400 : Int) < (n : Int) := by omega
          have HE := hide (show LgG n ts w (.returned (.bool true)) wr from ⟨true, rfl, by simp, j4⟩)
          clear j2 j3 j4 hN h4 hjn
          go_wp2_with fail
          go_ret
          exact HE.out
      · have hN2 : (20000 : Int) < (N : Int) := by omega
        have HE := hide (show LgG n ts w (.returned (.bool true)) wr from ⟨true, rfl, by simp, j4⟩)
        clear j2 j3 j4 hN hjn
        go_wp2_with fail
        go_ret
        exact HE.out
theorem own0 (W : World) : ARow (W.alloc (.cells #[] 47)) W.heap.size (.slice (some ⟨W.heap.size, 0, none⟩) 0 0) [] := by
  have k : Blk (W.alloc (.cells #[] 47)) W.heap.size #[] 47 := Blk.new W _ _
  unfold Blk at k
  exact ⟨rfl, Or.inr ⟨W.heap.size, 0, #[], rfl, Nat.le_refl _, k, by simp, by unfold maxLen; omega, by simp, by simp [flA]⟩⟩
theorem flA_cell {w : World} {b off : Nat} {ps : List At} (h : ∀ i, i < ps.length → w.cell? ⟨b, off + i * 2, none⟩ = some (.string ⟨(ps.getD i ([], [])).1.toArray⟩) ∧ w.cell? ⟨b, off + i * 2 + 1, none⟩ = some (.string ⟨(ps.getD i ([], [])).2.toArray⟩)) (j : Nat) (u : Value) (hu : (flA ps)[j]? = some u) : w.cell? ⟨b, off + j, none⟩ = some u := by
  have hj := (List.getElem?_eq_some_iff.1 hu).1
  rw [flA_len] at hj
  obtain ⟨h1, h2⟩ := h (j / 2) (by omega)
  have ha := flA_at ps (j / 2) (j % 2) (by omega) (by omega)
  rw [show j / 2 * 2 + j % 2 = j by omega, hu] at ha
  have hr : j % 2 = 0 ∨ j % 2 = 1 := by omega
  rcases hr with hr | hr
  · rw [hr] at ha
    rw [show off + j = off + j / 2 * 2 by omega, h1]
    simpa using ha.symm
  · rw [hr] at ha
    rw [show off + j = off + j / 2 * 2 + 1 by omega, h2]
    simpa using ha.symm
theorem flA_one (ps : List At) : ∀ u ∈ flA ps, u.oneCell' = true := by
  intro u hu
  unfold flA at hu
  rw [List.mem_flatMap] at hu
  obtain ⟨p, _, hp⟩ := hu
  exact acs_one p u hp
theorem app_ats (W : World) (aa : Option Addr) (n c H : Nat) (ps : List At) (hn : ps.length = n) (h : n ≤ 1000000) (hA : ALs W aa ps) (hH : W.heap.size = H) :
    ∃ a' c' w2, (Builtin.append_ #[43, 43] 43 #[.slice (some ⟨H, 0, none⟩) 0 0, .slice aa n c]).run Tryd.prog (W.alloc (.cells #[] 47)) = .ok (.slice a' n c') w2 ∧ ARow w2 H (.slice a' n c') ps ∧ Below W.heap.size W w2 := by
  subst hH
  obtain ⟨i0, hi, hz0, hz1, hz2⟩ := info_parts info_at
  rcases Nat.eq_zero_or_pos n with h0 | h0
  · subst h0
    obtain rfl : ps = [] := List.eq_nil_of_length_eq_zero hn
    have hs : Src Tryd.prog i0.size 43 (.slice aa 0 c) 0 [] (W.alloc (.cells #[] 47)) := by
      cases aa with
      | none => exact Src.ofNil _ Tryd.underlying43 c
      | some x => exact Src.ofSlice _ Tryd.underlying43 x 0 c [] (by simp) (by simp) (by simp)
    have hr := run_append_room_src (P := Tryd.prog) (W.alloc (.cells #[] 47)) 43 43 43 47 i0 Tryd.underlying43 hi W.heap.size 0 0 0 _ 0 [] hs (by omega) (by simp) (by simp)
    exact ⟨some ⟨W.heap.size, 0, none⟩, 0, W.alloc (.cells #[] 47), by simpa [World.setCells] using hr, own0 W, (Below.refl _ _).alloc (Nat.le_refl _) _⟩
  · rcases hA with hz' | ⟨b, off, rfl, hb, hcell⟩
    · rw [hz'] at hn; simp at hn; omega
    have hal := (Below.refl W.heap.size W).alloc (Nat.le_refl _) (.cells #[] 47)
    obtain ⟨gg, cap, w2, hr, ho, hg, hat, _⟩ := run_append_lies (P := Tryd.prog) (W.alloc (.cells #[] 47)) 43 43 W.heap.size 47 i0 _ 2 32 Tryd.underlying43 hi hz0 hz1 hz2 rfl (by decide) _ 0 [] (own0 W) ⟨b, off, none⟩ n c (flA ps) (by rw [flA_len, hn])
      (fun j u hu => by
        rw [Go.WideShapes.add_plain, World.cell?_alloc_lt _ _ _ hb]
        exact flA_cell hcell j u hu) (flA_one ps) h0 (by unfold maxLen; omega) (by omega) hal.size (W.heap.size + 1) (by simp)
    rw [Nat.zero_add] at hr ho
    rw [List.nil_append] at ho
    exact ⟨_, cap, w2, hr, by unfold ARow; rw [hn]; exact ho, hal.grown hg (by simp) fun k hk => by
      have : W.heap.size = k := by simpa [Value.ownBlock] using hk
      omega⟩
abbrev Gv := Tg × Value
abbrev gcs (p : Gv) : List Value := [.int .i64 p.1.k, .string ⟨p.1.x.toArray⟩, .string ⟨p.1.t.toArray⟩, p.2, .int .i64 p.1.a]
abbrev gk0 : Gv := (tg0, .slice none 0 0)
def flG (ps : List Gv) : List Value := ps.flatMap gcs
theorem flG_snoc (ps : List Gv) (x : Gv) : flG (ps ++ [x]) = flG ps ++ gcs x := by unfold flG; rw [List.flatMap_append]; simp
theorem flG_cons (x : Gv) (r : List Gv) : flG (x :: r) = gcs x ++ flG r := by unfold flG; rw [List.flatMap_cons]
theorem flG_at (ps : List Gv) : ∀ i j, i < ps.length → j < 5 → (flG ps)[i * 5 + j]? = (gcs (ps.getD i gk0))[j]? := by
  induction ps with
  | nil => intro i j h; simp at h
  | cons x r ih =>
    intro i j h hj
    rw [flG_cons]
    cases i with
    | zero => rw [List.getElem?_append_left (by simp; omega)]; simp
    | succ i =>
      rw [List.getElem?_append_right (by simp; omega)]
      have := ih i j (by simpa using h) hj
      simp only [List.length_cons, List.length_nil] at *
      rw [show (i + 1) * 5 + j - (0 + 1 + 1 + 1 + 1 + 1) = i * 5 + j by omega, this]
      simp
def GRow (w : World) (B : Nat) (v : Value) (ts : List Tg) : Prop := ∃ tv : List Gv, tv.map Prod.fst = ts ∧ w.ownsRow B 45 5 v tv.length (flG tv) ∧ ∀ p ∈ tv, ARow w 0 p.2 p.1.ps
theorem GRow.nil (w : World) (B : Nat) : GRow w B (.slice none 0 0) [] := ⟨[], rfl, World.ownsRow_nil _ _ _ _, by simp⟩
theorem GRow.below {w w' : World} {B : Nat} {v : Value} {ts : List Tg} (h : GRow w B v ts) (hb : Below w.heap.size w w') : GRow w' B v ts := by
  obtain ⟨tv, h1, h2, h3⟩ := h
  exact ⟨tv, h1, ownsRow_kc h2 (KC.of_below hb), fun p hp => (h3 p hp).below hb⟩
theorem GRow.lst {w : World} {B : Nat} {v : Value} {ts : List Tg} (h : GRow w B v ts) : ∃ a cap, v = .slice a ts.length cap ∧ GLs w a ts := by
  obtain ⟨tv, rfl, h2, h3⟩ := h
  have h' := h2
  obtain ⟨_, ⟨h0, hz⟩ | ⟨g, cap, cur, hv, hg, hh, hc, hm, _⟩⟩ := h'
  · obtain rfl : tv = [] := List.eq_nil_of_length_eq_zero hz
    exact ⟨none, 0, h0, Or.inl rfl⟩
  · refine ⟨_, cap, by rw [List.length_map]; exact hv, ?_⟩
    rw [hv] at h2
    refine Or.inr ⟨g, 0, rfl, heap_lt hh, fun i hi => ?_⟩
    rw [List.length_map] at hi
    have hge : (tv.map Prod.fst).getD i tg0 = (tv.getD i gk0).1 := by
      rw [List.getD_eq_getElem?_getD, List.getD_eq_getElem?_getD, List.getElem?_map, List.getElem?_eq_getElem hi]; rfl
    rw [hge]
    have hmem : tv.getD i gk0 ∈ tv := by rw [List.getD_eq_getElem?_getD, List.getElem?_eq_getElem hi]; exact List.getElem_mem _
    have hcell : ∀ j, j < 5 → w.cell? ⟨g, i * 5 + j, none⟩ = (gcs (tv.getD i gk0))[j]? := fun j hj => by
      rw [World.ownsRow.cellAt h2 (i * 5 + j) (by omega), flG_at tv i j hi hj]
    generalize tv.getD i gk0 = p at *
    obtain ⟨p1, p2⟩ := p
    obtain ⟨aa, ac, he, hA, hq1, hq2⟩ := (h3 _ hmem).lst
    simp only at he hA hq1
    subst he
    rw [Nat.zero_add]
    exact ⟨aa, ac, hcell 0 (by omega), hcell 1 (by omega), hcell 2 (by omega), hcell 3 (by omega), hcell 4 (by omega), hA, hq1, hq2⟩
theorem gcs_one (c : Gv) (h : ∃ a n k, c.2 = .slice a n k) : ∀ u ∈ gcs c, u.oneCell' = true := by
  obtain ⟨a, n, k, h⟩ := h
  intro u hu
  simp only [gcs, List.mem_cons, List.not_mem_nil, or_false] at hu
  rcases hu with rfl | rfl | rfl | rfl | rfl
  all_goals first | rfl | (rw [h]; rfl)
theorem app_gk {W : World} {B : Nat} {v va : Value} {ts : List Tg} (t : Tg) (H : Nat) (hH : W.heap.size = H) (h : GRow W B v ts) (ha : ARow W 0 va t.ps) (hB : B ≤ W.heap.size) (hl : ts.length ≤ 1048576) :
    ∃ v' w2, (Builtin.append_ #[23, 23] 23 #[v, .slice (some ⟨H, 0, none⟩) 1 1]).run Tryd.prog (W.alloc (.cells (gcs (t, va)).toArray 45)) = .ok v' w2 ∧ GRow w2 B v' (ts ++ [t]) ∧ Below B W w2 := by
  subst hH
  obtain ⟨i0, hi, hz0, hz1, hz2⟩ := info_parts info_tk
  obtain ⟨tv, rfl, h2, h3⟩ := h
  rw [List.length_map] at hl
  obtain ⟨aa, ac, hva, _⟩ := ha.lst
  obtain ⟨gg, cap, w2, hr, ho, hg, hat, _⟩ := run_append_lies (P := Tryd.prog) (W.alloc (.cells (gcs (t, va)).toArray 45)) 23 23 B 45 i0 _ 5 72 Tryd.underlying23 hi hz0 hz1 hz2 rfl (by decide) v tv.length (flG tv) (World.ownsRow.alloc h2 _) ⟨W.heap.size, 0, none⟩ 1 1 (gcs (t, va)) (by simp)
    (fun j u hu => by rw [Go.WideShapes.add_plain, Nat.zero_add, World.cell?_alloc_at _ _ _ _ rfl]; simpa using hu) (gcs_one _ ⟨_, _, _, hva⟩) (by decide) (by unfold maxLen; omega) (by omega) (by simp; omega) (W.heap.size + 1) (by simp)
  have hal := (Below.refl W.heap.size W).alloc (Nat.le_refl _) (.cells (gcs (t, va)).toArray 45)
  have hty : ∀ (k : Nat) (c : Array Value) (t : TypeId) (f : Nat × Nat), W.heap[k]? = some (Obj.cells c t f) → t ≠ 45 → w2.heap[k]? = some (Obj.cells c t f) := fun k c t f hc ht => by
    have hk := heap_lt hc
    rw [hg.block k (by simp; omega) (fun e => by
      obtain ⟨_, ⟨h0, _⟩ | ⟨g, cap, cur, hv, _, hh, _⟩⟩ := h2
      · rw [h0] at e; simp [Value.ownBlock] at e
      · rw [hv] at e
        have : k = g := by simpa [Value.ownBlock] using e
        subst this
        rw [hc] at hh
        injection hh with hh
        injection hh with _ e _
        exact ht e)]
    rw [hal.block k hk]; exact hc
  refine ⟨_, w2, hr, ⟨tv ++ [(t, va)], by simp, by rw [flG_snoc, List.length_append]; exact ho, fun p hp' => ?_⟩, ((Below.refl B W).alloc hB _).grown hg (by simp; omega) fun k hk' => (World.ownsRow.lt h2 k hk').1⟩
  rw [List.mem_append, List.mem_singleton] at hp'
  rcases hp' with hp' | rfl
  · exact (h3 p hp').ty hty
  · exact ha.ty hty
def CoG (n : Nat) (ts : List Tg) (w : World) (e : Ending) (w' : World) : Prop := ∃ a' c', e = .returned (.slice a' n c') ∧ GLs w' a' ts ∧ Below w.heap.size w w'
set_option maxHeartbeats 2000000 in
theorem rcopy_any (a : Option Addr) (n c : Nat) (ts : List Tg) (w : World) (hn : ts.length = n) (h1 : n ≤ 1000000) (hg : ∀ t ∈ ts, t.ps.length ≤ 1000000) (hL : GLs w a ts) :
    Calls Tryd.prog 14 #[.slice a n c] w (CoG n ts w) := by
  have h5 : (n : Int) ≤ 1000000 := by omega
  have HN := hide hn
  have HG := hide hg
  have HL := hide hL
  clear hn hg hL
  go_enter Tryd.func14, Tryd.ntmps14
  go_wp2_with fail
  go_loopw [3, 4] (fun vo vi wr => ∃ j : Nat, vi = .int .i64 j ∧ Hid (j ≤ n ∧ Below w.heap.size w wr ∧ GRow wr w.heap.size vo (ts.take j))) (fun _ vi _ => n - (RowKit.intOf vi).toNat)
  case atStart => exact ⟨0, rfl, hide ⟨by omega, Below.refl _ _, by simpa using GRow.nil _ _⟩⟩
  case round =>
    obtain ⟨j, rfl, HR⟩ := hrel
    obtain ⟨j1, j2, j3⟩ := HR.out
    clear HR
    have htl : (ts.take j).length = j := by rw [List.length_take]; have := HN.out; omega
    by_cases hj : j < n
    · have hj' : (j : Int) < (n : Int) := by omega
      rcases HL.out.below j2 with h0 | ⟨b, off, rfl, hlt, hcell⟩
      · have := HN.out; rw [h0] at this; simp at this; omega
      obtain ⟨aa, ac, c0, c1, c2, c3, c4, hal, hcap⟩ := hcell j (by have := HN.out; omega)
      have hmem : ts.getD j tg0 ∈ ts := by rw [List.getD_eq_getElem?_getD, List.getElem?_eq_getElem (by have := HN.out; omega)]; exact List.getElem_mem _
      have hps := HG.out _ hmem
      have htk : ts.take (j + 1) = ts.take j ++ [ts.getD j tg0] := by
        rw [List.take_succ_eq_append_getElem (by have := HN.out; omega), List.getD_eq_getElem?_getD, List.getElem?_eq_getElem (by have := HN.out; omega)]; rfl
      clear hcell hmem
      generalize ts.getD j tg0 = t at *
      obtain ⟨κ, x, tt, ps, ta⟩ := t
      simp only at c0 c1 c2 c3 c4 hal hcap hps
      obtain ⟨va, vc, hsh, _⟩ := j3.lst
      rw [htl] at hsh
      subst hsh
      obtain ⟨m, hm⟩ : ∃ m, ps.length = m := ⟨_, rfl⟩
      rw [hm] at c3 hps
      have hal0 := (Below.refl wr.heap.size wr).alloc (Nat.le_refl _) (.cells #[.int .i64 κ, .string ⟨x.toArray⟩, .string ⟨tt.toArray⟩, .slice aa m ac, .int .i64 ta] 45)
      have z1 : (wr.alloc (.cells #[.int .i64 κ, .string ⟨x.toArray⟩, .string ⟨tt.toArray⟩, .slice aa m ac, .int .i64 ta] 45)).heap.size = wr.heap.size + 1 := by simp
      have k0 := Blk.new wr #[.int .i64 κ, .string ⟨x.toArray⟩, .string ⟨tt.toArray⟩, .slice aa m ac, .int .i64 ta] 45
      obtain ⟨a', c', w1, hr, hrow, hb1⟩ := app_ats (wr.alloc (.cells #[.int .i64 κ, .string ⟨x.toArray⟩, .string ⟨tt.toArray⟩, .slice aa m ac, .int .i64 ta] 45)) aa m ac (wr.heap.size + 1) ps hm (by omega) (hal.below hal0) z1
      have k1 := k0.below hb1
      have k2 := k1.set 3 (.slice a' m c')
      simp at k2
      have hb2 : Below wr.heap.size wr (w1.setCell ⟨wr.heap.size, 3, none⟩ (.slice a' m c')) := (hal0.trans (hb1.mono hal0.size)).setCell (p := ⟨wr.heap.size, 3, none⟩) (Nat.le_refl _) _
      have hrow2 : ARow (w1.setCell ⟨wr.heap.size, 3, none⟩ (.slice a' m c')) 0 (.slice a' m c') ps := (hrow.set k1 (by decide) 3 _).lower (Nat.zero_le _)
      have hsz : (w1.setCell ⟨wr.heap.size, 3, none⟩ (.slice a' m c')).heap.size = w1.heap.size := by simp
      obtain ⟨v4, w4, hr4, hrow4, hb4⟩ := app_gk (va := .slice a' m c') ⟨κ, x, tt, ps, ta⟩ w1.heap.size hsz (j3.below hb2) hrow2 (Nat.le_trans j2.size hb2.size) (by rw [htl]; omega)
      have hwf : Below w.heap.size w w4 := (j2.trans (hb2.mono j2.size)).trans hb4
      rw [← htk] at hrow4
      obtain ⟨va4, vc4, hsh4, _⟩ := hrow4.lst
      obtain ⟨j9, hj9⟩ : ∃ j9, (ts.take (j + 1)).length = j9 := ⟨_, rfl⟩
      rw [hj9] at hsh4
      clear hj9
      subst hsh4
      obtain ⟨d0, d1, d2, d3, d4⟩ := cells5 k1
      have d5 := k1.frozen 3
      obtain ⟨e0, e1, e2, e3, e4⟩ := cells5 k2
      simp only [gcs] at hr4
      have HRU := hide hr
      have HR4 := hide hr4
      have HROW := hide hrow4
      have HWF := hide hwf
      clear hr hr4 hrow4 hwf k0 k1 k2 hb1 hb2 hrow hrow2 hb4 j2 j3 hal hcap hal0 htk htl hsz hm
      go_wp2_with (first
        | (at_builtin; refine Lib.wpList_append_run _ rfl _ _ _ _ rfl _ _ rfl rfl _ _ HRU.out ?_)
        | (at_builtin; refine Lib.wpList_append_run _ rfl _ _ _ _ rfl _ _ rfl rfl _ _ HR4.out ?_))
      go_roundw
      case rel => exact ⟨j + 1, by go_num, hide ⟨by omega, HWF.out, HROW.out⟩⟩
      case measure => simp [RowKit.intOf]; omega
    · have hj' : ¬ (j : Int) < (n : Int) := by omega
      obtain rfl : j = n := by omega
      rw [List.take_of_length_le (by have := HN.out; omega)] at j3
      obtain ⟨va, vc, hsh, hgl⟩ := j3.lst
      rw [HN.out] at hsh
      subst hsh
      have HE := hide (show CoG j ts w (.returned (.slice va j vc)) wr from ⟨va, vc, rfl, hgl, j2⟩)
      clear hgl j2 j3 htl
      go_wp2_with fail
      go_ret
      exact HE.out
end Go.Proofs.YtpmdekhjodhdmaaDoor.K17
namespace Go.Proofs.YtpmdekhjodhdmaaDoor.K17
open Go.RowKit Go.Proofs.YtpmdekhjodhdmaaDoor
open Go.Lib
set_option linter.unusedVariables false
set_option linter.unusedSimpArgs false
set_option maxRecDepth 8000
theorem isNm_parts {x : List UInt8} (h : isNm x = true) : 1 ≤ x.length ∧ x.length ≤ 16 ∧ smN (x.getD 0 0).toNat = true ∧ x.all nmB = true := by
  unfold isNm at h
  simp only [Bool.and_eq_true, decide_eq_true_eq] at h
  exact ⟨h.1.1.1, h.1.1.2, h.1.2, h.2⟩
theorem isNm_cons {x : List UInt8} (h : isNm x = true) : ∃ b r, x = b :: r ∧ smN b.toNat = true := by
  obtain ⟨h1, _, h3, _⟩ := isNm_parts h
  cases x with
  | nil => simp at h1
  | cons b r => exact ⟨b, r, rfl, by simpa using h3⟩
theorem tw_app : ∀ (x Q : List UInt8), x.all nmB = true → (∀ c q, Q = c :: q → nmB c = false) → (x ++ Q).takeWhile nmB = x ∧ (x ++ Q).dropWhile nmB = Q
  | [], Q, _, hQ => by
    cases Q with
    | nil => exact ⟨rfl, rfl⟩
    | cons c q =>
      have := hQ c q rfl
      simp [List.takeWhile_cons, List.dropWhile_cons, this]
  | b :: x, Q, h, hQ => by
    rw [List.all_cons, Bool.and_eq_true] at h
    obtain ⟨i1, i2⟩ := tw_app x Q h.2 hQ
    rw [List.cons_append, List.takeWhile_cons, if_pos h.1, List.dropWhile_cons, if_pos h.1, i1, i2]
    exact ⟨rfl, rfl⟩
theorem nm_app {x Q : List UInt8} (h : isNm x = true) (hQ : ∀ c q, Q = c :: q → nmB c = false) : nm (x ++ Q) = some (x, Q) := by
  obtain ⟨h1, h2⟩ := tw_app x Q (isNm_parts h).2.2.2 hQ
  unfold nm
  rw [h1, h2, isN_isNm, if_pos h]
theorem sm_ne {b : UInt8} (h : smN b.toNat = true) : b ≠ 47 ∧ b ≠ 62 ∧ b ≠ 60 ∧ blB b = false := by
  refine ⟨?_, ?_, ?_, ?_⟩
  · rintro rfl; exact absurd h (by decide)
  · rintro rfl; exact absurd h (by decide)
  · rintro rfl; exact absurd h (by decide)
  · unfold smN at h
    simp only [decide_eq_true_eq] at h
    unfold blB
    simp only [List.contains_eq_mem, List.mem_cons, List.not_mem_nil, or_false, decide_eq_false_iff_not, not_or]
    refine ⟨?_, ?_, ?_, ?_⟩ <;> (rintro rfl; revert h; decide)
theorem upto_none {b : UInt8} : ∀ (t : List UInt8), b ∉ t → upto b t = t
  | [], _ => rfl
  | c :: t, h => by
    simp only [List.mem_cons, not_or] at h
    have := upto_none t h.2
    unfold upto at *
    rw [List.takeWhile_cons, if_pos (by simpa using Ne.symm h.1), this]
theorem pln_parts {l : List UInt8} (h : pln l = true) : Vt l ∧ hc l = false := by
  unfold pln at h
  simp only [Bool.and_eq_true, Bool.not_eq_true'] at h
  exact ⟨(valid_iff l).1 h.1, h.2⟩
theorem va_esc {v : List UInt8} (Q : List UInt8) (h : pln v = true) : va (esc v ++ 34 :: Q) = some (v, Q) := by
  obtain ⟨hv, hh⟩ := pln_parts h
  obtain ⟨h34, h60⟩ := esc_not hv
  have hu : upto 34 (esc v ++ 34 :: Q) = esc v := upto_app _ _ h34
  unfold va
  rw [hu, if_pos (by simp), if_neg h60, pl_of_esc hv hh]
  simp only [Option.some.injEq, Prod.mk.injEq, true_and]
  rw [List.drop_append, List.drop_eq_nil_of_le (by omega), show (esc v).length + 1 - (esc v).length = 1 by omega]
  rfl
theorem att_esc {x v : List UInt8} (Q : List UInt8) (hx : isNm x = true) (h : pln v = true) : att (x ++ (61 :: 34 :: (esc v ++ 34 :: Q))) = some (x, v, Q) := by
  unfold att
  rw [nm_app hx (fun c q e => by injection e with e _; rw [← e]; decide)]
  simp only
  rw [bk_n _ (by decide), if_pos (hp_1 61 _), tp_1 61 _, bk_n _ (by decide), if_pos (hp_1 34 _), tp_1 34 _, va_esc Q h]
def okB : List At → List At → Prop
  | _, [] => True
  | done, p :: ps => isNm p.1 = true ∧ nmd done p.1 = false ∧ pln p.2 = true ∧ done.length < 16 ∧ okB (done ++ [p]) ps
theorem opF_ats (k : Int) (E r : List UInt8) (hE : k = 1 ∧ E = [62] ∨ k = 3 ∧ E = [47, 62]) : ∀ (ps done : List At) (f : Nat), okB done ps → (ps.flatMap aT ++ (E ++ r)).length < f → opF f (ps.flatMap aT ++ (E ++ r)) done = some (k, done ++ ps, r)
  | [], done, f, _, hf => by
    obtain ⟨g, rfl⟩ : ∃ g, f = g + 1 := ⟨f - 1, by omega⟩
    rw [List.append_nil]
    rcases hE with ⟨rfl, rfl⟩ | ⟨rfl, rfl⟩
    · show opF (g + 1) (62 :: r) done = _
      rw [opF, bk_n _ (by decide), if_pos (hp_1 62 _), tp_1 62 _]
    · show opF (g + 1) (47 :: 62 :: r) done = _
      have h2 : hp [47, 62] (47 :: 62 :: r) = true := (hp_iff _ _).2 ⟨r, rfl⟩
      have h3 : tp [47, 62] (47 :: 62 :: r) = r := tp_t rfl
      rw [opF, bk_n _ (by decide), hp_n1 _ _ (by decide), if_neg (by simp), if_pos h2, h3]
  | p :: ps, done, f, h, hf => by
    obtain ⟨g, rfl⟩ : ∃ g, f = g + 1 := ⟨f - 1, by omega⟩
    obtain ⟨h1, h2, h3, h4, h5⟩ := h
    obtain ⟨b, xr, hb, hsm⟩ := isNm_cons h1
    obtain ⟨n47, n62, _, nbl⟩ := sm_ne hsm
    have hl : (p :: ps).flatMap aT ++ (E ++ r) = 32 :: (p.1 ++ (61 :: 34 :: (esc p.2 ++ 34 :: (ps.flatMap aT ++ (E ++ r))))) := by
      rw [List.flatMap_cons]; unfold aT; simp
    rw [hl] at hf ⊢
    have hbk : bk (32 :: (p.1 ++ (61 :: 34 :: (esc p.2 ++ 34 :: (ps.flatMap aT ++ (E ++ r)))))) = p.1 ++ (61 :: 34 :: (esc p.2 ++ 34 :: (ps.flatMap aT ++ (E ++ r)))) := by
      rw [bk_b _ (by decide), hb, List.cons_append, bk_n _ nbl]
    have e62 : hp [62] (p.1 ++ (61 :: 34 :: (esc p.2 ++ 34 :: (ps.flatMap aT ++ (E ++ r))))) = false := by
      rw [hb, List.cons_append]; exact hp_n1 _ _ (Ne.symm n62)
    have e47 : hp [47, 62] (p.1 ++ (61 :: 34 :: (esc p.2 ++ 34 :: (ps.flatMap aT ++ (E ++ r))))) = false := by
      rw [hb, List.cons_append]; exact hp_n1 _ _ (Ne.symm n47)
    rw [opF, hbk, e62, e47, if_neg (by simp), if_neg (by simp), if_pos ⟨by simp, h4⟩, att_esc _ h1 h3]
    simp only
    rw [if_neg (by rw [h2]; simp)]
    have ih := opF_ats k E r hE ps (done ++ [p]) g h5 (by
      simp only [List.length_cons, List.length_append] at hf ⊢
      omega)
    rw [show ((p.1, p.2) : At) = p from rfl, ih]
    simp
theorem okA_okB {ps : List At} (h : okA ps = true) : okB [] ps := by
  unfold okA at h
  rw [Bool.and_eq_true, decide_eq_true_eq] at h
  obtain ⟨h16, hall⟩ := h
  have key : ∀ (k : Nat), k ≤ ps.length → okB (ps.take (ps.length - k)) (ps.drop (ps.length - k)) := by
    intro k
    induction k with
    | zero => intro _; rw [List.drop_eq_nil_of_le (by omega)]; trivial
    | succ k ih =>
      intro hk
      have h1 := ih (by omega)
      obtain ⟨j, hj⟩ : ∃ j, ps.length - (k + 1) = j := ⟨_, rfl⟩
      rw [show ps.length - k = j + 1 by omega] at h1
      rw [hj]
      have hlt : j < ps.length := by omega
      have ha := allN_iff.1 hall j hlt
      unfold okA1 at ha
      rw [List.getD_eq_getElem?_getD, List.getElem?_eq_getElem hlt] at ha
      simp only [Option.getD_some, Bool.and_eq_true, Bool.not_eq_true'] at ha
      rw [List.drop_eq_getElem_cons hlt]
      refine ⟨ha.1.1, ha.1.2, ha.2, by rw [List.length_take]; omega, ?_⟩
      rw [List.take_succ_eq_append_getElem hlt] at h1
      exact h1
  have := key ps.length (Nat.le_refl _)
  rw [Nat.sub_self] at this
  simpa using this
theorem tok_txT (t : Tg) (r : List UInt8) (h : okT t = true) (hr : t.k = 4 → r = [] ∨ ∃ q, r = 60 :: q) : tokV (txT t ++ r) = .ok (⟨t.k, t.x, t.t, t.ps, 0⟩, (txT t).length) := by
  obtain ⟨k, x, tt, ps, a⟩ := t
  have h' := h
  unfold okT at h
  simp only at h hr
  unfold txT
  simp only
  split at h
  · rename_i h4
    subst h4
    rw [if_pos rfl]
    simp only [Bool.and_eq_true, decide_eq_true_eq, Bool.not_eq_true', decide_eq_false_iff_not] at h
    obtain ⟨⟨⟨hx, hps⟩, ht⟩, hp⟩ := h
    subst hx
    obtain rfl : ps = [] := List.eq_nil_of_length_eq_zero hps
    obtain ⟨hv, hh⟩ := pln_parts hp
    obtain ⟨_, h60⟩ := esc_not hv
    have hne := gesc_ne ht
    have hu : upto 60 (esc tt ++ r) = esc tt := by
      rcases hr rfl with rfl | ⟨q, rfl⟩
      · rw [List.append_nil]
        exact upto_none _ h60
      · exact upto_app _ _ h60
    have hg : ¬ (esc tt ++ r).getD 0 0 = 60 := by
      cases he : esc tt with
      | nil => exact absurd he hne
      | cons b z =>
        rw [he] at h60
        simp only [List.mem_cons, not_or] at h60
        simpa using Ne.symm h60.1
    unfold tokV
    rw [if_neg hg, hu, pl_of_esc hv hh]
  · rename_i h4
    rw [if_neg h4]
    split at h
    · rename_i h2
      subst h2
      rw [if_pos rfl]
      simp only [Bool.and_eq_true, decide_eq_true_eq] at h
      obtain ⟨⟨hx, hps⟩, ht⟩ := h
      subst ht
      obtain rfl : ps = [] := List.eq_nil_of_length_eq_zero hps
      have hl : [60, 47] ++ x ++ [62] ++ r = 60 :: 47 :: (x ++ 62 :: r) := by simp
      rw [hl]
      have ht : tagV (60 :: 47 :: (x ++ 62 :: r)) = some (2, x, [], r) := by
        unfold tagV clo
        rw [if_pos (hp_1 60 _), tp_1 60 _, if_pos (hp_1 47 _), tp_1 47 _, nm_app hx (fun c q e => by injection e with e _; rw [← e]; decide)]
        simp only
        rw [bk_n _ (by decide), if_pos (hp_1 62 _), tp_1 62 _]
      unfold tokV
      rw [if_pos (show (60 :: 47 :: (x ++ 62 :: r)).getD 0 0 = 60 from rfl), ht]
      simp only [Except.ok.injEq, Prod.mk.injEq, true_and]
      simp only [List.length_append, List.length_cons, List.length_nil]
      omega
    · rename_i h2
      rw [if_neg h2]
      split at h
      · rename_i h13
        simp only [Bool.and_eq_true, decide_eq_true_eq] at h
        obtain ⟨⟨hx, hps⟩, ht⟩ := h
        subst ht
        obtain ⟨E, hE, hEt⟩ : ∃ E : List UInt8, (k = 1 ∧ E = [62] ∨ k = 3 ∧ E = [47, 62]) ∧ (if k = 3 then [47] else []) ++ [62] = E := by
          rcases h13 with rfl | rfl
          · exact ⟨_, Or.inl ⟨rfl, rfl⟩, rfl⟩
          · exact ⟨_, Or.inr ⟨rfl, rfl⟩, rfl⟩
        have hl : [60] ++ x ++ ps.flatMap aT ++ (if k = 3 then [47] else []) ++ [62] ++ r = 60 :: (x ++ (ps.flatMap aT ++ (E ++ r))) := by
          rw [← hEt]; simp
        have hQ : ∀ c q, ps.flatMap aT ++ (E ++ r) = c :: q → nmB c = false := by
          intro c q e
          cases ps with
          | nil =>
            rcases hE with ⟨_, rfl⟩ | ⟨_, rfl⟩
            · injection e with e _; rw [← e]; decide
            · injection e with e _; rw [← e]; decide
          | cons p ps => injection e with e _; rw [← e]; decide
        obtain ⟨b, xr, hb, hsm⟩ := isNm_cons hx
        have hop := opF_ats k E r hE ps [] ((ps.flatMap aT ++ (E ++ r)).length + 1) (okA_okB hps) (by omega)
        have hn47 : hp [47] (x ++ (ps.flatMap aT ++ (E ++ r))) = false := by rw [hb, List.cons_append]; exact hp_n1 _ _ (Ne.symm (sm_ne hsm).1)
        have htg : tagV (60 :: (x ++ (ps.flatMap aT ++ (E ++ r)))) = some (k, x, ps, r) := by
          unfold tagV op
          rw [if_pos (hp_1 60 _), tp_1 60 _, hn47, if_neg (by simp), nm_app hx hQ]
          simp only
          rw [hop]
          rfl
        rw [hl]
        unfold tokV
        rw [if_pos (show (60 :: (x ++ (ps.flatMap aT ++ (E ++ r)))).getD 0 0 = 60 from rfl), htg]
        simp only [Except.ok.injEq, Prod.mk.injEq, true_and]
        have hlen := congrArg List.length hl
        simp only [List.length_append, List.length_cons, List.length_nil] at hlen ⊢
        omega
      · simp at h
end Go.Proofs.YtpmdekhjodhdmaaDoor.K17
