/-
  The law MetricsReads, walked.
-/
import Derived.Test.YtehcpnbbgjinfaaM9RRe
import Derived.Deep.AppendSrc
namespace Go.Proofs.Ytehcpnbbgjinfaa
open Go.RowKit Go.Deep
set_option linter.unusedVariables false
set_option linter.unusedSimpArgs false

def flT (l : List Tab) : List Value := l.flatMap fun x => [.string x.1, .string x.2]
theorem flT_cons (x : Tab) (l : List Tab) : flT (x :: l) = .string x.1 :: .string x.2 :: flT l := rfl
theorem flT_len (l : List Tab) : (flT l).length = l.length * 2 := by
  induction l with
  | nil => rfl
  | cons x l ih => rw [flT_cons, List.length_cons, List.length_cons, List.length_cons, ih]; omega
theorem flT_at (l : List Tab) : ∀ (i : Nat) (x : Tab), l[i]? = some x → (flT l)[i * 2]? = some (.string x.1) ∧ (flT l)[i * 2 + 1]? = some (.string x.2) := by
  induction l with
  | nil => intro i x h; simp at h
  | cons y l ih =>
    intro i x h
    cases i with
    | zero => simp at h; subst h; exact ⟨rfl, rfl⟩
    | succ i =>
      have := ih i x (by simpa using h)
      rw [flT_cons, show (i + 1) * 2 = i * 2 + 1 + 1 by omega]
      simpa using this
theorem flT_cell {w : World} {b off : Nat} {l : List Tab} (h : ∀ i x, l[i]? = some x → w.cell? ⟨b, off + i * 2, none⟩ = some (.string x.1) ∧ w.cell? ⟨b, off + i * 2 + 1, none⟩ = some (.string x.2)) : ∀ j u, (flT l)[j]? = some u → w.cell? ⟨b, off + j, none⟩ = some u := by
  intro j u hu
  have hj : j < l.length * 2 := by
    have := (List.getElem?_eq_some_iff.1 hu).1
    rwa [flT_len] at this
  have hi : j / 2 < l.length := by omega
  have hx := List.getElem?_eq_getElem hi
  obtain ⟨h1, h2⟩ := h _ _ hx
  obtain ⟨g1, g2⟩ := flT_at l _ _ hx
  rcases Nat.mod_two_eq_zero_or_one j with e | e
  · have e2 : j / 2 * 2 = j := by omega
    rw [e2] at h1 g1
    rw [hu] at g1
    rw [h1, g1]
  · have e2 : j / 2 * 2 + 1 = j := by omega
    rw [Nat.add_assoc, e2] at h2
    rw [e2] at g2
    rw [hu] at g2
    rw [h2, g2]
theorem info_tab : (Try.prog.info? 46).map (fun i => (i.zero, i.size, i.bytes)) = some (some (.agg #[.string ⟨#[]⟩, .string ⟨#[]⟩]), 2, 32) := by kernel_rfl
theorem flT_one (l : List Tab) : ∀ u ∈ flT l, u.oneCell' = true := fun u hu => by
  unfold flT at hu
  rw [List.mem_flatMap] at hu
  obtain ⟨x, _, hx⟩ := hu
  simp at hx
  rcases hx with rfl | rfl <;> rfl
theorem app_tabs (w : World) (a : Option Addr) (n c H : Nat) (l : List Tab) (hz : l.length = n) (h : n ≤ 100000) (hL : TLst w a l) (hH : w.heap.size = H) :
    ∃ g c' w', (Builtin.append_ #[22, 22] 22 #[.slice (some ⟨H, 0, none⟩) 0 0, .slice a n c]).run Try.prog (w.alloc (.cells #[] 46)) = .ok (.slice (some ⟨g, 0, none⟩) n c') w' ∧ TLst w' (some ⟨g, 0, none⟩) l ∧ Below w.heap.size w w' := by
  subst hH
  obtain ⟨i0, hi, hz0, hz1, hz2⟩ := info_parts5 info_tab
  rcases Nat.eq_zero_or_pos n with h0 | h0
  · subst h0
    obtain rfl : l = [] := List.eq_nil_of_length_eq_zero hz
    have hs : Src Try.prog i0.size 22 (.slice a 0 c) 0 [] (w.alloc (.cells #[] 46)) := by
      cases a with
      | none => exact Src.ofNil _ Try.underlying22 c
      | some x => exact Src.ofSlice _ Try.underlying22 x 0 c [] (by simp) (by simp) (by simp)
    have hr := run_append_room_src (P := Try.prog) (w.alloc (.cells #[] 46)) 22 22 22 46 i0 Try.underlying22 hi w.heap.size 0 0 0 _ 0 [] hs (by omega) (by simp) (by simp)
    refine ⟨w.heap.size, 0, w.alloc (.cells #[] 46), by simpa [World.setCells] using hr, Or.inl rfl, (Below.refl _ _).alloc (Nat.le_refl _) _⟩
  · rcases hL with hz' | ⟨b, off, rfl, hb, hcell⟩
    · rw [hz'] at hz; simp at hz; omega
    have hs : Src Try.prog i0.size 22 (.slice (some ⟨b, off, none⟩) n c) n (flT l) (w.alloc (.cells #[] 46)) := by
      refine Src.ofSlice (w.alloc (.cells #[] 46)) Try.underlying22 ⟨b, off, none⟩ n c _ (by rw [hz1, flT_len, hz]) ?_ (flT_one l)
      intro j u hu
      rw [Go.WideShapes.add_plain, World.cell?_alloc_lt _ _ _ hb]
      exact flT_cell hcell j u hu
    have hr := run_append_grow_src (P := Try.prog) (w.alloc (.cells #[] 46)) 22 22 22 46 i0 (.agg #[.string ⟨#[]⟩, .string ⟨#[]⟩]) Try.underlying22 hi hz0 (some ⟨w.heap.size, 0, none⟩) 0 0 [] (run_firstCells_some _ i0.size 0 _ 0 0 [] (by simp) (by simp)) _ n _ hs (by omega) (by omega)
      (by rw [hz2]; have := growslice_fits (need := 0 + n) (old := 0) (bytes := 32) (by omega) (by omega); exact this)
    simp only [Nat.zero_add, List.nil_append] at hr
    have hs2 : (w.alloc (.cells #[] 46)).heap.size = w.heap.size + 1 := by simp
    rw [hs2] at hr
    have b1 : Below w.heap.size w ((w.alloc (.cells #[] 46)).drew) := ((Below.refl _ _).alloc (Nat.le_refl _) _).drew
    have hsz : ((w.alloc (.cells #[] 46)).drew).heap.size = w.heap.size + 1 := by simp
    refine ⟨_, _, _, hr, Or.inr ⟨w.heap.size + 1, 0, rfl, by simp, fun i x hi => ?_⟩, b1.alloc (by rw [hsz]; omega) _⟩
    obtain ⟨g1, g2⟩ := flT_at l i x hi
    have l1 := (List.getElem?_eq_some_iff.1 g1).1
    have l2 := (List.getElem?_eq_some_iff.1 g2).1
    rw [Nat.zero_add, World.cell?_alloc_at _ _ _ _ hsz.symm, World.cell?_alloc_at _ _ _ _ hsz.symm]
    rw [Array.getElem?_append_left (by simpa using l1), Array.getElem?_append_left (by simpa using l2)]
    simpa using And.intro g1 g2
theorem arr_lst {w : World} {p n : Nat} {f : Nat → Int} (h : Blk w p (arr f n n) 3) : Lst w (some ⟨p, 0, none⟩) ((List.range n).map f) := by
  refine Or.inr ⟨p, 0, rfl, h.lt, fun i hi => ?_⟩
  have hi' : i < n := by simpa using hi
  rw [Nat.zero_add, h.cell i, arr_at _ _ _ _ hi', if_pos hi']
  simp [List.getD_eq_getElem?_getD, hi']
/- what is read, as metrics -/
def rdM (mx hd hh hx : ByteArray) : Mt := ⟨((n2 hd.data.toList 18 : Nat) : Int), s2 hh.data.toList 4, s2 hh.data.toList 6, s2 hh.data.toList 8, s2 hd.data.toList 36, s2 hd.data.toList 38, s2 hd.data.toList 40, s2 hd.data.toList 42, (((n2 hd.data.toList 50 : Nat) : Int) == 1), advL hx (hV hh) (nV mx), beaL hx (hV hh) (nV mx)⟩
theorem rd_some (mx hd hh hx : ByteArray) (va vb : Value) : mval mx hd hh va vb = .agg (mcs (rdM mx hd hh hx) va vb) := rfl
def zM : Mt := ⟨0, 0, 0, 0, 0, 0, 0, 0, false, [], []⟩
theorem rd_zero : zeroM = .agg (mcs zM (.slice none 0 0) (.slice none 0 0)) := rfl
/- both Reads answer metrics that are alike -/
def BoR (m : Mt) (er : Int) (w : World) (e : Ending) (w' : World) : Prop := ∃ a1 c1 a2 c2, e = .returned (.tuple #[.agg (mcs m (.slice a1 m.ad.length c1) (.slice a2 m.be.length c2)), .int .i64 er]) ∧ Lst w' a1 m.ad ∧ Lst w' a2 m.be ∧ Below w.heap.size w w'
theorem both_read (l : List Tab) (n : Nat) (hn : l.length = n) (hm : n ≤ 1048576) (hd0 : ∀ x ∈ l, x.2.size ≤ 1073741824) : ∃ (m : Mt) (er : Int), m.ad.length ≤ 4096 ∧ m.be.length ≤ 4096 ∧
    (∀ a c w, TLst w a l → Calls Try.prog 10 #[.slice a n c] w (BoR m er w)) ∧ (∀ a c w, TLst w a l → Calls Try.prog 11 #[.slice a n c] w (BoR m er w)) := by
  cases hr : readV l with
  | none =>
    refine ⟨zM, 90, by simp [zM], by simp [zM], fun a c w hL => ?_, fun a c w hL => ?_⟩
    · refine (rd_any a l n c w hn (by omega) hd0 hL).mono ?_
      rintro e w' (⟨_, rfl, hb⟩ | ⟨mx, hd, hh, hx, p, q, h, _⟩)
      · exact ⟨none, 0, none, 0, rfl, Or.inl rfl, Or.inl rfl, hb⟩
      · rw [hr] at h; cases h
    · refine (rrd_no a l n c w hn (by omega) hd0 hL hr).mono ?_
      rintro e w' ⟨rfl, hb⟩
      exact ⟨none, 0, none, 0, rfl, Or.inl rfl, Or.inl rfl, hb⟩
  | some x =>
    obtain ⟨mx, hd, hh, hx⟩ := x
    have hnv : nV mx ≤ 4096 := by
      obtain ⟨_, _, _, _, hall⟩ := rdv_inv hr
      have := all_inv hall
      exact this.2.2.2.2.2.1
    refine ⟨rdM mx hd hh hx, 0, by simp [rdM, advL]; exact hnv, by simp [rdM, beaL]; exact hnv, fun a c w hL => ?_, fun a c w hL => ?_⟩
    · refine (rd_any a l n c w hn (by omega) hd0 hL).mono ?_
      rintro e w' (⟨h, _⟩ | ⟨mx', hd', hh', hx', p, q, h, rfl, hb, hp, hq, hpq, k1, k2⟩)
      · rw [hr] at h; cases h
      · rw [hr] at h
        injection h with h
        injection h with e1 h
        injection h with e2 h
        injection h with e3 e4
        subst e1 e2 e3 e4
        refine ⟨some ⟨p, 0, none⟩, nV mx, some ⟨q, 0, none⟩, nV mx, ?_, arr_lst k1, arr_lst k2, hb⟩
        rw [rd_some mx hd hh hx]
        simp [rdM, advL, beaL]
    · refine (rrd_yes a l n c w hn (by omega) hd0 hL mx hd hh hx hr).mono ?_
      rintro e w' ⟨a1, c1, a2, c2, rfl, hb, l1, l2⟩
      refine ⟨a1, c1, a2, c2, ?_, l1, l2, hb⟩
      rw [rd_some mx hd hh hx]
      simp [rdM, advL, beaL]
set_option maxRecDepth 8000 in
set_option maxHeartbeats 8000000 in
theorem reads_walk (a : Option Addr) (n c : Nat) (l : List Tab) (w : World) (hT : TIn w a n l) :
    Calls Try.prog 3 #[.slice a n c] w fun e w' => e = .returned (.bool true) ∧ Below w.heap.size w w' := by
  have CL := hide (long_any a l n c w hT)
  have CWK := hide wakes9_any
  have HT := hide hT
  clear hT
  go_enter Try.func3, Try.ntmps3
  go_wp2_with fail
  refine CL.out.mono ?_
  rintro e w1 ⟨b, rfl, hb, m1, hw1⟩
  have HW1 : Hid (Below w.heap.size w w1) := hide (by rw [hw1]; exact below_drewN' _ _)
  clear hw1
  cases b
  case true =>
    go_wp2_with fail
    refine (CWK.out _).mono ?_
    rintro e w2 ⟨rfl, h2⟩
    have H2 := hide (below_t5 HW1.out h2)
    clear h2
    go_wp2_with fail
    go_ret
    exact ⟨rfl, H2.out⟩
  obtain ⟨hn, hsz⟩ := hb rfl
  obtain ⟨m, er, d1, d2, C1, C2⟩ := both_read l n HT.out.len (by omega) (fun x hx => by have := hsz x hx; omega)
  obtain ⟨g, c', w2, hr, t2, b2⟩ := app_tabs w1 a n c w1.heap.size l HT.out.len (by omega) (HT.out.lst.below HW1.out) rfl
  have HRU := hide hr
  have HT2 := hide t2
  have HB2 := hide (below_t5 HW1.out b2)
  have HTA := hide ((HT.out.lst.below HW1.out).below b2)
  have HC1 := hide (C1 (some ⟨g, 0, none⟩) c' w2 t2)
  have HC2 := hide (fun w3 (hb : Below w2.heap.size w2 w3) => C2 a c w3 (HTA.out.below hb))
  have CS := hide (fun w3 (hb : Below w2.heap.size w2 w3) => tsame_any (some ⟨g, 0, none⟩) a l n c' c w3 HT.out.len (by omega) (HT2.out.below hb) (HTA.out.below hb))
  have CM := hide (fun (p1 p2 q1 q2 : Option Addr) (x1 x2 y1 y2 : Nat) w3 (h1 : Lst w3 p1 m.ad) (h2 : Lst w3 p2 m.ad) (h3 : Lst w3 q1 m.be) (h4 : Lst w3 q2 m.be) => msame_any m p1 p2 q1 q2 m.ad.length m.be.length x1 x2 y1 y2 w3 rfl rfl (by omega) (by omega) h1 h2 h3 h4)
  clear hr t2 b2 C1 C2 hb
  go_wp2_with (at_builtin; refine Lib.wpList_append_run _ rfl _ _ _ _ rfl _ _ rfl rfl _ _ HRU.out ?_)
  refine HC1.out.mono ?_
  rintro e w3 ⟨p1, x1, q1, y1, rfl, l1, l2, h3⟩
  obtain ⟨up, sc, de, ga, b0, b1, b2, b3, lg, ad, be⟩ := m
  simp only [mcs] at HC2 CM ⊢
  simp only at l1 l2
  have HL1 := hide l1
  have HL2 := hide l2
  have HX3 := hide h3
  clear l1 l2 h3 HC1
  have bn3 := (Below.refl w3.heap.size w3).alloc (Nat.le_refl _) (.cells #[.int .i64 up, .int .i64 sc, .int .i64 de, .int .i64 ga, .int .i64 b0, .int .i64 b1, .int .i64 b2, .int .i64 b3, .bool lg, .slice p1 ad.length x1, .slice q1 be.length y1] 28)
  have HN3 := hide bn3
  have HX4 := hide (below_t5 HX3.out bn3)
  have HK3 := hide (Blk.new w3 #[.int .i64 up, .int .i64 sc, .int .i64 de, .int .i64 ga, .int .i64 b0, .int .i64 b1, .int .i64 b2, .int .i64 b3, .bool lg, .slice p1 ad.length x1, .slice q1 be.length y1] 28)
  clear bn3
  go_upto_region 5 with (fail)
  have HLV : Hid (Lst (w3.alloc (.cells #[.int .i64 up, .int .i64 sc, .int .i64 de, .int .i64 ga, .int .i64 b0, .int .i64 b1, .int .i64 b2, .int .i64 b3, .bool lg, .slice p1 ad.length x1, .slice q1 be.length y1] 28)) p1 ad ∧ Lst (w3.alloc (.cells #[.int .i64 up, .int .i64 sc, .int .i64 de, .int .i64 ga, .int .i64 b0, .int .i64 b1, .int .i64 b2, .int .i64 b3, .bool lg, .slice p1 ad.length x1, .slice q1 be.length y1] 28)) q1 be) := hide ⟨HL1.out.below HN3.out, HL2.out.below HN3.out⟩
  clear HN3
  generalize w3.heap.size = mb at HK3 ⊢
  generalize w3.alloc (.cells #[.int .i64 up, .int .i64 sc, .int .i64 de, .int .i64 ga, .int .i64 b0, .int .i64 b1, .int .i64 b2, .int .i64 b3, .bool lg, .slice p1 ad.length x1, .slice q1 be.length y1] 28) = V3 at HX4 HK3 HLV ⊢
  go_wp2_with fail
  refine (HC2.out _ HX4.out).mono ?_
  rintro e w4 ⟨p2, x2, q2, y2, rfl, l3, l4, h4⟩
  simp only [mcs] at l3 l4 ⊢
  have HL3 := hide l3
  have HL4 := hide l4
  have HX5 := hide (below_t5 HX4.out h4)
  have HK4 := hide (HK3.out.below h4)
  have HY : Hid (Lst w4 p1 ad ∧ Lst w4 q1 be) := hide ⟨(HLV.out.1).below h4, (HLV.out.2).below h4⟩
  clear l3 l4 h4 HC2 HK3
  have bn4 := (Below.refl w4.heap.size w4).alloc (Nat.le_refl _) (.cells #[.int .i64 up, .int .i64 sc, .int .i64 de, .int .i64 ga, .int .i64 b0, .int .i64 b1, .int .i64 b2, .int .i64 b3, .bool lg, .slice p2 ad.length x2, .slice q2 be.length y2] 28)
  have HX6 := hide (below_t5 HX5.out bn4)
  have HK5 := hide (HK4.out.below bn4)
  have HK6 := hide (Blk.new w4 #[.int .i64 up, .int .i64 sc, .int .i64 de, .int .i64 ga, .int .i64 b0, .int .i64 b1, .int .i64 b2, .int .i64 b3, .bool lg, .slice p2 ad.length x2, .slice q2 be.length y2] 28)
  have HZ : Hid ((Lst (w4.alloc (.cells #[.int .i64 up, .int .i64 sc, .int .i64 de, .int .i64 ga, .int .i64 b0, .int .i64 b1, .int .i64 b2, .int .i64 b3, .bool lg, .slice p2 ad.length x2, .slice q2 be.length y2] 28)) p1 ad ∧ Lst (w4.alloc (.cells #[.int .i64 up, .int .i64 sc, .int .i64 de, .int .i64 ga, .int .i64 b0, .int .i64 b1, .int .i64 b2, .int .i64 b3, .bool lg, .slice p2 ad.length x2, .slice q2 be.length y2] 28)) q1 be) ∧ (Lst (w4.alloc (.cells #[.int .i64 up, .int .i64 sc, .int .i64 de, .int .i64 ga, .int .i64 b0, .int .i64 b1, .int .i64 b2, .int .i64 b3, .bool lg, .slice p2 ad.length x2, .slice q2 be.length y2] 28)) p2 ad ∧ Lst (w4.alloc (.cells #[.int .i64 up, .int .i64 sc, .int .i64 de, .int .i64 ga, .int .i64 b0, .int .i64 b1, .int .i64 b2, .int .i64 b3, .bool lg, .slice p2 ad.length x2, .slice q2 be.length y2] 28)) q2 be)) := hide ⟨⟨HY.out.1.below bn4, HY.out.2.below bn4⟩, ⟨HL3.out.below bn4, HL4.out.below bn4⟩⟩
  clear bn4 HY HL3 HL4 HK4
  go_upto_region 6 with (fail)
  generalize w4.heap.size = rb at HK6 ⊢
  generalize w4.alloc (.cells #[.int .i64 up, .int .i64 sc, .int .i64 de, .int .i64 ga, .int .i64 b0, .int .i64 b1, .int .i64 b2, .int .i64 b3, .bool lg, .slice p2 ad.length x2, .slice q2 be.length y2] 28) = V4 at HX6 HK5 HK6 HZ ⊢
  have c0 : V4.cell? ⟨mb, 0, none⟩ = some (.int .i64 up) := HK5.out.cell 0
  have c1 : V4.cell? ⟨mb, 1, none⟩ = some (.int .i64 sc) := HK5.out.cell 1
  have c2 : V4.cell? ⟨mb, 2, none⟩ = some (.int .i64 de) := HK5.out.cell 2
  have c3 : V4.cell? ⟨mb, 3, none⟩ = some (.int .i64 ga) := HK5.out.cell 3
  have c4 : V4.cell? ⟨mb, 4, none⟩ = some (.int .i64 b0) := HK5.out.cell 4
  have c5 : V4.cell? ⟨mb, 5, none⟩ = some (.int .i64 b1) := HK5.out.cell 5
  have c6 : V4.cell? ⟨mb, 6, none⟩ = some (.int .i64 b2) := HK5.out.cell 6
  have c7 : V4.cell? ⟨mb, 7, none⟩ = some (.int .i64 b3) := HK5.out.cell 7
  have c8 : V4.cell? ⟨mb, 8, none⟩ = some (.bool lg) := HK5.out.cell 8
  have c9 : V4.cell? ⟨mb, 9, none⟩ = some (.slice p1 ad.length x1) := HK5.out.cell 9
  have c10 : V4.cell? ⟨mb, 10, none⟩ = some (.slice q1 be.length y1) := HK5.out.cell 10
  have d0 : V4.cell? ⟨rb, 0, none⟩ = some (.int .i64 up) := HK6.out.cell 0
  have d1 : V4.cell? ⟨rb, 1, none⟩ = some (.int .i64 sc) := HK6.out.cell 1
  have d2 : V4.cell? ⟨rb, 2, none⟩ = some (.int .i64 de) := HK6.out.cell 2
  have d3 : V4.cell? ⟨rb, 3, none⟩ = some (.int .i64 ga) := HK6.out.cell 3
  have d4 : V4.cell? ⟨rb, 4, none⟩ = some (.int .i64 b0) := HK6.out.cell 4
  have d5 : V4.cell? ⟨rb, 5, none⟩ = some (.int .i64 b1) := HK6.out.cell 5
  have d6 : V4.cell? ⟨rb, 6, none⟩ = some (.int .i64 b2) := HK6.out.cell 6
  have d7 : V4.cell? ⟨rb, 7, none⟩ = some (.int .i64 b3) := HK6.out.cell 7
  have d8 : V4.cell? ⟨rb, 8, none⟩ = some (.bool lg) := HK6.out.cell 8
  have d9 : V4.cell? ⟨rb, 9, none⟩ = some (.slice p2 ad.length x2) := HK6.out.cell 9
  have d10 : V4.cell? ⟨rb, 10, none⟩ = some (.slice q2 be.length y2) := HK6.out.cell 10
  have k1 := HK5.out.lt
  have k2 := HK6.out.lt
  go_wp2_with fail
  refine (CM.out p1 p2 q1 q2 x1 x2 y1 y2 _ HZ.out.1.1 HZ.out.2.1 HZ.out.1.2 HZ.out.2.2).mono ?_
  rintro e w5 ⟨rfl, h5⟩
  have HX7 := hide (below_t5 HX6.out h5)
  clear h5 c0 d0 c1 d1 c2 d2 c3 d3 c4 d4 c5 d5 c6 d6 c7 d7 c8 d8 c9 d9 c10 d10 k1 k2
  go_wp2_with fail
  refine (CS.out _ HX7.out).mono ?_
  rintro e w6 ⟨rfl, m6, h6⟩
  have HX8 : Hid (Below w2.heap.size w2 w6) := hide (by rw [h6]; exact below_drewN HX7.out m6)
  clear h6
  go_wp2_with fail
  refine (CWK.out _).mono ?_
  rintro e w7 ⟨rfl, h7⟩
  have HX9 := hide (below_t5 HX8.out h7)
  clear h7
  go_wp2_with fail
  go_ret
  exact ⟨rfl, below_t5 HB2.out HX9.out⟩
end Go.Proofs.Ytehcpnbbgjinfaa
