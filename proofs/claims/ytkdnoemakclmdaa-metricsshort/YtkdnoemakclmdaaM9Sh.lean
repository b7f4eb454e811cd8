/-
  Tables with fewer advances than glyphs: what is read of them, in plain words. Pure.
-/
import Derived.Test.YtkdnoemakclmdaaM9Bq
namespace Go.Proofs.Ytkdnoemakclmdaa
set_option linter.unusedVariables false

/- the h first pairs of l, and k bearings behind them -/
def shB (l : List UInt8) (h : Nat) : Nat → List UInt8
  | 0 => l.take (4 * h)
  | k + 1 => shB l h k ++ (l.drop (4 * (h + k) + 2)).take 2
theorem shB_len (l : List UInt8) (h : Nat) : ∀ k, 4 * (h + k) ≤ l.length → (shB l h k).length = 4 * h + 2 * k
  | 0, hl => by unfold shB; rw [List.length_take]; omega
  | k + 1, hl => by
    unfold shB
    rw [List.length_append, shB_len l h k (by omega), List.length_take, List.length_drop]
    omega
theorem shB_lo (l : List UInt8) (h : Nat) : ∀ k, 4 * (h + k) ≤ l.length → ∀ j, j < 4 * h → (shB l h k)[j]? = l[j]?
  | 0, hl, j, hj => by unfold shB; rw [List.getElem?_take, if_pos hj]
  | k + 1, hl, j, hj => by
    unfold shB
    rw [List.getElem?_append_left (by rw [shB_len l h k (by omega)]; omega)]
    exact shB_lo l h k (by omega) j hj
theorem shB_hi (l : List UInt8) (h : Nat) : ∀ k, 4 * (h + k) ≤ l.length → ∀ i c, i < k → c < 2 → (shB l h k)[4 * h + 2 * i + c]? = l[4 * (h + i) + 2 + c]?
  | 0, hl, i, c, hi, hc => by omega
  | k + 1, hl, i, c, hi, hc => by
    unfold shB
    rcases Nat.lt_or_ge i k with h' | h'
    · rw [List.getElem?_append_left (by rw [shB_len l h k (by omega)]; omega)]
      exact shB_hi l h k (by omega) i c h' hc
    · obtain rfl : i = k := by omega
      rw [List.getElem?_append_right (by rw [shB_len l h i (by omega)]; omega), shB_len l h i (by omega), show 4 * h + 2 * i + c - (4 * h + 2 * i) = c by omega, List.getElem?_take, if_pos hc, List.getElem?_drop]
theorem n2_of {l l' : List UInt8} {i j : Nat} (h0 : l[i]? = l'[j]?) (h1 : l[i + 1]? = l'[j + 1]?) : n2 l i = n2 l' j := by
  unfold n2 bt
  simp only [List.getD_eq_getElem?_getD, h0, h1]
theorem s2_of {l l' : List UInt8} {i j : Nat} (h0 : l[i]? = l'[j]?) (h1 : l[i + 1]? = l'[j + 1]?) : s2 l i = s2 l' j := by
  have := n2_of h0 h1
  unfold s2
  rw [this]
def shD (m : Mt) (h : Nat) : ByteArray := ⟨(shB (hmT m.ad m.be m.ad.length) h (m.ad.length - h)).toArray⟩
def tabsS (m : Mt) (h : Nat) : List Tab := [(headS, ⟨(hdT m).toArray⟩), (hheaS, ⟨(hhT m h).toArray⟩), (hmtxS, shD m h), (maxpS, ⟨(mxT m.ad.length).toArray⟩)]
structure Short (m : Mt) (h : Nat) (mx hd hh hx : ByteArray) : Prop where
  r : readV (tabsS m h) = some (mx, hd, hh, hx)
  n : nV mx = m.ad.length
  hv : hV hh = h
  ad : ∀ i, i < m.ad.length → advF hx (hV hh) i = m.ad.getD (min i (h - 1)) 0
  be : ∀ i, i < m.ad.length → beaF hx (hV hh) i = m.be.getD i 0
set_option maxRecDepth 4000 in
theorem short_of (m : Mt) (h : Nat) (hg : goodB m = true) (h0 : 1 ≤ h) (h1 : h ≤ m.ad.length) : Short m h ⟨(mxT m.ad.length).toArray⟩ ⟨(hdT m).toArray⟩ ⟨(hhT m h).toArray⟩ (shD m h) := by
  have B := back_of m hg
  obtain ⟨g1, g2, g3, g4, g5, g6, g7⟩ := good_in hg
  have hn := nv_is m.ad.length (by omega)
  have hh := hv_is m h (by omega)
  have hhn := B.h
  have hl : (hmT m.ad m.be m.ad.length).length = 4 * m.ad.length := by rw [hmT_len]
  have hlen : (shB (hmT m.ad m.be m.ad.length) h (m.ad.length - h)).length = 4 * h + 2 * (m.ad.length - h) := shB_len _ _ _ (by rw [hl]; omega)
  have lo := shB_lo (hmT m.ad m.be m.ad.length) h (m.ad.length - h) (by rw [hl]; omega)
  have hi := shB_hi (hmT m.ad m.be m.ad.length) h (m.ad.length - h) (by rw [hl]; omega)
  have e18 : ((n2 (hdT m) 18 : Nat) : Int) = m.up := n2_is (by rw [hdT_eq]; rfl) (by omega) (by omega)
  have e50 : ((n2 (hdT m) 50 : Nat) : Int) = lgI m.lg := n2_is (by rw [hdT_eq]; rfl) (by unfold lgI; split <;> omega) (by unfold lgI; split <;> omega)
  have e52 : n2 (hdT m) 52 = 0 := by rw [hdT_eq]; simp [n2, bt]
  have e32 : n2 (hhT m h) 32 = 0 := by rw [hhT_eq]; simp [n2, bt]
  have bmx : mxB ⟨(mxT m.ad.length).toArray⟩ = true := by
    unfold mxB
    rw [say_list (t := verS) (by rw [mxT_eq]; rfl), Bool.or_true, Bool.true_and, wiB_one]
    have : n2 (mxT m.ad.length) 4 = m.ad.length := hn
    simp only [this]
    simp
    omega
  have bhd : hdB ⟨(hdT m).toArray⟩ = true := by
    unfold hdB
    rw [say_list (t := verS) (by rw [hdT_eq]; rfl), say_list (t := magicS) (by rw [hdT_eq]; rfl), wiB_one, wiB_one]
    simp only [e18, e50, e52]
    cases m.lg <;> simp [lgI] <;> omega
  have bhh : hhB ⟨(hhT m h).toArray⟩ (nV ⟨(mxT m.ad.length).toArray⟩ : Int) = true := by
    unfold hhB
    rw [say_list (t := verS) (by rw [hhT_eq]; rfl), wiB_one, hn]
    have : n2 (hhT m h) 34 = h := hh
    simp only [this, e32]
    simp
    omega
  have f1 : finV (tabsS m h) maxpS = some ⟨(mxT m.ad.length).toArray⟩ := by
    simp only [tabsS, fin_cons, e_head_maxp, e_hhea_maxp, e_hmtx_maxp, e_maxp_maxp]
    simp
  have f2 : finV (tabsS m h) headS = some ⟨(hdT m).toArray⟩ := by
    simp only [tabsS, fin_cons, e_head_head]
    simp
  have f3 : finV (tabsS m h) hheaS = some ⟨(hhT m h).toArray⟩ := by
    simp only [tabsS, fin_cons, e_head_hhea, e_hhea_hhea]
    simp
  have f4 : finV (tabsS m h) hmtxS = some (shD m h) := by
    simp only [tabsS, fin_cons, e_head_hmtx, e_hhea_hmtx, e_hmtx_hmtx]
    simp
  have z1 : (mxT m.ad.length).toArray.size = 32 := by simp [mxT_len]
  refine ⟨rdv_yes f1 f2 f3 f4 ?_, hn, hh, ?_, ?_⟩
  · unfold allB
    rw [bmx, bhd, bhh, hn, hh]
    simp [ByteArray.size, mxT_len, hdT_len, hhT_len, shD, hlen]
  · intro i hi'
    unfold advF
    rw [hh]
    have key : ∀ j, j < h → ((n2 (shD m h).data.toList (4 * j) : Nat) : Int) = m.ad.getD j 0 := by
      intro j hj
      have b := B.ad j (by omega)
      unfold advF at b
      rw [hhn, if_pos (by omega)] at b
      rw [← b]
      have : n2 (shB (hmT m.ad m.be m.ad.length) h (m.ad.length - h)) (4 * j) = n2 (hmT m.ad m.be m.ad.length) (4 * j) := n2_of (lo _ (by omega)) (lo _ (by omega))
      show ((n2 (shB (hmT m.ad m.be m.ad.length) h (m.ad.length - h)) (4 * j) : Nat) : Int) = _
      rw [this]
    split
    · rename_i hlt
      rw [key i hlt, show min i (h - 1) = i by omega]
    · rename_i hge
      have := key (h - 1) (by omega)
      rw [show 4 * (h - 1) = 4 * h - 4 by omega] at this
      rw [this, show min i (h - 1) = h - 1 by omega]
  · intro i hi'
    have b := B.be i hi'
    unfold beaF at b ⊢
    rw [hhn, if_pos hi'] at b
    rw [hh, ← b]
    split
    · rename_i hlt
      exact s2_of (l := shB (hmT m.ad m.be m.ad.length) h (m.ad.length - h)) (l' := hmT m.ad m.be m.ad.length) (lo _ (by omega)) (lo _ (by omega))
    · rename_i hge
      have q0 := hi (i - h) 0 (by omega) (by omega)
      have q1 := hi (i - h) 1 (by omega) (by omega)
      rw [show 4 * (h + (i - h)) + 2 + 0 = 4 * i + 2 by omega] at q0
      rw [show 4 * (h + (i - h)) + 2 + 1 = 4 * i + 2 + 1 by omega] at q1
      exact s2_of (l := shB (hmT m.ad m.be m.ad.length) h (m.ad.length - h)) (l' := hmT m.ad m.be m.ad.length) q0 q1
theorem short_hh (m : Mt) (n h : Nat) : (hhT m n).take 34 ++ [hiB (h : Int), loB (h : Int)] = hhT m h := by
  rw [hhT_eq, hhT_eq]
  rfl
end Go.Proofs.Ytkdnoemakclmdaa
