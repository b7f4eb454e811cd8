/-
  What is built is read as it was (P9.4), in plain words. Pure.
-/
import Derived.Test.YtkdnoemakclmdaaM9Bk
namespace Go.Proofs.Ytkdnoemakclmdaa
set_option linter.unusedVariables false

theorem ext_list (l : List UInt8) (a b : Nat) : ((⟨l.toArray⟩ : ByteArray).extract a b) = ⟨((l.drop a).take (b - a)).toArray⟩ := by
  apply ByteArray.ext
  rw [ByteArray.data_extract]
  simp [List.extract]
theorem say_list {l : List UInt8} {k : Nat} {t : ByteArray} (h : (l.drop k).take (k + t.size - k) = t.data.toList) : sayB ⟨l.toArray⟩ k t = true := by
  unfold sayB
  rw [eqS_iff, ext_list, h]
theorem ty (a b : ByteArray) (h : a = b) : eqS a b = true := (eqS_iff a b).2 h
theorem e_head_head : eqS headS headS = true := ty _ _ rfl
theorem e_head_hhea : eqS headS hheaS = false := eqS_no (by decide)
theorem e_head_hmtx : eqS headS hmtxS = false := eqS_no (by decide)
theorem e_head_maxp : eqS headS maxpS = false := eqS_no (by decide)
theorem e_hhea_head : eqS hheaS headS = false := eqS_no (by decide)
theorem e_hhea_hhea : eqS hheaS hheaS = true := ty _ _ rfl
theorem e_hhea_hmtx : eqS hheaS hmtxS = false := eqS_no (by decide)
theorem e_hhea_maxp : eqS hheaS maxpS = false := eqS_no (by decide)
theorem e_hmtx_head : eqS hmtxS headS = false := eqS_no (by decide)
theorem e_hmtx_hhea : eqS hmtxS hheaS = false := eqS_no (by decide)
theorem e_hmtx_hmtx : eqS hmtxS hmtxS = true := ty _ _ rfl
theorem e_hmtx_maxp : eqS hmtxS maxpS = false := eqS_no (by decide)
theorem e_maxp_head : eqS maxpS headS = false := eqS_no (by decide)
theorem e_maxp_hhea : eqS maxpS hheaS = false := eqS_no (by decide)
theorem e_maxp_hmtx : eqS maxpS hmtxS = false := eqS_no (by decide)
theorem e_maxp_maxp : eqS maxpS maxpS = true := ty _ _ rfl
theorem fin_cons (x : Tab) (l : List Tab) (t : ByteArray) : finV (x :: l) t = if eqS x.1 t = true then some x.2 else finV l t := by
  unfold finV
  rw [List.find?_cons]
  cases eqS x.1 t <;> rfl
theorem fin_mx (m : Mt) : finV (tabs m) maxpS = some ⟨(mxT m.ad.length).toArray⟩ := by
  simp only [tabs, fin_cons, e_head_maxp, e_hhea_maxp, e_hmtx_maxp, e_maxp_maxp]
  simp
theorem fin_hd (m : Mt) : finV (tabs m) headS = some ⟨(hdT m).toArray⟩ := by
  simp only [tabs, fin_cons, e_head_head]
  simp
theorem fin_hh (m : Mt) : finV (tabs m) hheaS = some ⟨(hhT m m.ad.length).toArray⟩ := by
  simp only [tabs, fin_cons, e_head_hhea, e_hhea_hhea]
  simp
theorem fin_hx (m : Mt) : finV (tabs m) hmtxS = some ⟨(hmT m.ad m.be m.ad.length).toArray⟩ := by
  simp only [tabs, fin_cons, e_head_hmtx, e_hhea_hmtx, e_hmtx_hmtx]
  simp
theorem nv_is (n : Nat) (h : n ≤ 4096) : nV ⟨(mxT n).toArray⟩ = n := by
  have := n2_is (l := mxT n) (k := 4) (x := (n : Int)) (by rw [mxT_eq]; rfl) (by omega) (by omega)
  show n2 (mxT n) 4 = n
  omega
theorem hv_is (m : Mt) (n : Nat) (h : n ≤ 4096) : hV ⟨(hhT m n).toArray⟩ = n := by
  have := n2_is (l := hhT m n) (k := 34) (x := (n : Int)) (by rw [hhT_eq]; rfl) (by omega) (by omega)
  show n2 (hhT m n) 34 = n
  omega
/- the metrics that the four tables say are those of which they were built -/
structure Back (m : Mt) (mx hd hh hx : ByteArray) : Prop where
  r : readV (tabs m) = some (mx, hd, hh, hx)
  n : nV mx = m.ad.length
  h : hV hh = m.ad.length
  up : ((n2 hd.data.toList 18 : Nat) : Int) = m.up
  sc : s2 hh.data.toList 4 = m.sc
  de : s2 hh.data.toList 6 = m.de
  ga : s2 hh.data.toList 8 = m.ga
  b0 : s2 hd.data.toList 36 = m.b0
  b1 : s2 hd.data.toList 38 = m.b1
  b2 : s2 hd.data.toList 40 = m.b2
  b3 : s2 hd.data.toList 42 = m.b3
  lg : (((n2 hd.data.toList 50 : Nat) : Int) == 1) = m.lg
  ad : ∀ i, i < m.ad.length → advF hx (hV hh) i = m.ad.getD i 0
  be : ∀ i, i < m.ad.length → beaF hx (hV hh) i = m.be.getD i 0
set_option maxRecDepth 4000 in
theorem back_of (m : Mt) (hg : goodB m = true) : Back m ⟨(mxT m.ad.length).toArray⟩ ⟨(hdT m).toArray⟩ ⟨(hhT m m.ad.length).toArray⟩ ⟨(hmT m.ad m.be m.ad.length).toArray⟩ := by
  obtain ⟨g1, g2, g3, g4, g5, g6, g7⟩ := good_in hg
  have hn := nv_is m.ad.length (by omega)
  have hh := hv_is m m.ad.length (by omega)
  have q1 := g2 m.sc (by simp)
  have q2 := g2 m.de (by simp)
  have q3 := g2 m.ga (by simp)
  have p0 := g3 m.b0 (by simp)
  have p1 := g3 m.b1 (by simp)
  have p2 := g3 m.b2 (by simp)
  have p3 := g3 m.b3 (by simp)
  have e18 : ((n2 (hdT m) 18 : Nat) : Int) = m.up := n2_is (by rw [hdT_eq]; rfl) (by omega) (by omega)
  have e50 : ((n2 (hdT m) 50 : Nat) : Int) = lgI m.lg := n2_is (by rw [hdT_eq]; rfl) (by unfold lgI; split <;> omega) (by unfold lgI; split <;> omega)
  have e52 : n2 (hdT m) 52 = 0 := by rw [hdT_eq]; simp [n2, bt]
  have e32 : n2 (hhT m m.ad.length) 32 = 0 := by rw [hhT_eq]; simp [n2, bt]
  have bmx : mxB ⟨(mxT m.ad.length).toArray⟩ = true := by
    unfold mxB
    rw [say_list (t := verS) (by rw [mxT_eq]; rfl), Bool.or_true, Bool.true_and, wiB_one]
    have : n2 (mxT m.ad.length) 4 = m.ad.length := hn
    simp only [this]
    simp
    omega
  have bhd : hdB ⟨(hdT m).toArray⟩ = true := by
    unfold hdB
    rw [say_list (t := verS) (by rw [hdT_eq]; rfl), say_list (t := magicS) (by rw [hdT_eq]; rfl), wiB_one, wiB_one]
    simp only [e18, e50, e52]
    cases m.lg <;> simp [lgI] <;> omega
  have bhh : hhB ⟨(hhT m m.ad.length).toArray⟩ (nV ⟨(mxT m.ad.length).toArray⟩ : Int) = true := by
    unfold hhB
    rw [say_list (t := verS) (by rw [hhT_eq]; rfl), wiB_one, hn]
    have : n2 (hhT m m.ad.length) 34 = m.ad.length := hh
    simp only [this, e32]
    simp
    omega
  have z1 : (mxT m.ad.length).toArray.size = 32 := by simp [mxT_len]
  refine ⟨rdv_yes (fin_mx m) (fin_hd m) (fin_hh m) (fin_hx m) ?_, hn, hh, e18, s2_is (by rw [hhT_eq]; rfl) q1.1 q1.2, s2_is (by rw [hhT_eq]; rfl) q2.1 q2.2, s2_is (by rw [hhT_eq]; rfl) q3.1 q3.2, s2_is (by rw [hdT_eq]; rfl) p0.1 p0.2, s2_is (by rw [hdT_eq]; rfl) p1.1 p1.2, s2_is (by rw [hdT_eq]; rfl) p2.1 p2.2, s2_is (by rw [hdT_eq]; rfl) p3.1 p3.2, ?_, ?_, ?_⟩
  · unfold allB
    rw [bmx, bhd, bhh, hn, hh]
    simp [ByteArray.size, mxT_len, hdT_len, hhT_len, hmT_len]
  · show (((n2 (hdT m) 50 : Nat) : Int) == 1) = m.lg
    rw [e50]
    cases m.lg <;> decide
  · intro i hi
    unfold advF
    rw [hh, if_pos hi]
    show ((n2 (hmT m.ad m.be m.ad.length) (4 * i) : Nat) : Int) = _
    have := flatB_at (ilv m.ad m.be m.ad.length) (2 * i) (by rw [ilv_len]; omega)
    rw [(ilv_at m.ad m.be m.ad.length i hi).1, ← hmT_eq, show 2 * (2 * i) = 4 * i by omega] at this
    have q := g6 (m.ad.getD i 0) (by rw [List.getD_eq_getElem?_getD, List.getElem?_eq_getElem hi]; exact List.getElem_mem _)
    exact n2_is this q.1 q.2
  · intro i hi
    unfold beaF
    rw [hh, if_pos hi]
    show s2 (hmT m.ad m.be m.ad.length) (4 * i + 2) = _
    have := flatB_at (ilv m.ad m.be m.ad.length) (2 * i + 1) (by rw [ilv_len]; omega)
    rw [(ilv_at m.ad m.be m.ad.length i hi).2, ← hmT_eq, show 2 * (2 * i + 1) = 4 * i + 2 by omega] at this
    have q := g7 (m.be.getD i 0) (by rw [List.getD_eq_getElem?_getD, List.getElem?_eq_getElem (by omega)]; exact List.getElem_mem _)
    exact s2_is this q.1 q.2
end Go.Proofs.Ytkdnoemakclmdaa
