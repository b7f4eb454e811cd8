/-
  Joined: M9Bld, M9Bk, M9Bq.
-/
import Derived.WalkKit
import Derived.Test.YtpdfpbbamnhkfaaGreatDoorV25
import Derived.Test.YtpdfpbbamnhkfaaGreatDoorV30
namespace Go.Proofs.YtpdfpbbamnhkfaaGreatDoor
open Go.RowKit Go.Deep
set_option linter.unusedVariables false
theorem zers_len (n : Nat) : (zers n).length = n := by simp [zers]
theorem mxT_len (n : Nat) : (mxT n).length = 32 := by
  unfold mxT; rw [putL_len, putL_len, cpy_len (by rw [zers_len]; decide), zers_len]
theorem hhT_len (m : Mt) (n : Nat) : (hhT m n).length = 36 := by
  unfold hhT; rw [putL_len, putL_len, putL_len, putL_len, putL_len, cpy_len (by rw [zers_len]; decide), zers_len]
theorem hdT_len (m : Mt) : (hdT m).length = 54 := by
  have h1 : (cpy (zers 54) 0 verS.data.toList).length = 54 := by rw [cpy_len (by rw [zers_len]; decide), zers_len]
  have h2 : (cpy (cpy (zers 54) 0 verS.data.toList) 4 verS.data.toList).length = 54 := by rw [cpy_len (by rw [h1]; decide), h1]
  have h3 : (cpy (cpy (cpy (zers 54) 0 verS.data.toList) 4 verS.data.toList) 12 magicS.data.toList).length = 54 := by rw [cpy_len (by rw [h2]; decide), h2]
  unfold hdT
  split
  · rw [putL_len, putL_len, putL_len, putL_len, h3]
  · rw [putL_len, putL_len, putL_len, h3]
theorem hmT_len (ad be : List Int) (n : Nat) : (hmT ad be n).length = 4 * n := by
  unfold hmT; rw [putL_len, zers_len]
theorem good_in {m : Mt} (h : goodB m = true) : (16 ≤ m.up ∧ m.up ≤ 16384) ∧ (∀ x ∈ [m.sc, m.de, m.ga], -32768 ≤ x ∧ x ≤ 32767) ∧ (∀ x ∈ [m.b0, m.b1, m.b2, m.b3], -32768 ≤ x ∧ x ≤ 32767) ∧ (1 ≤ m.ad.length ∧ m.ad.length ≤ 4096) ∧ m.be.length = m.ad.length ∧ (∀ x ∈ m.ad, 0 ≤ x ∧ x ≤ 65535) ∧ (∀ x ∈ m.be, -32768 ≤ x ∧ x ≤ 32767) := by
  have al : ∀ (lo hi : Int) (zs : List Int), wiB lo hi zs = true → ∀ x ∈ zs, lo ≤ x ∧ x ≤ hi := fun lo hi zs h x hx => by
    unfold wiB at h
    rw [List.all_eq_true] at h
    simpa using h x hx
  unfold goodB at h
  simp only [Bool.and_eq_true] at h
  obtain ⟨h1, h2, h3, h4, h5, h6, h7⟩ := h
  refine ⟨al _ _ _ h1 _ (by simp), al _ _ _ h2, al _ _ _ h3, ?_, by simp at h5; omega, al _ _ _ h6, al _ _ _ h7⟩
  have := al _ _ _ h4 (m.ad.length : Int) (by simp)
  omega
theorem maxV_in : ∀ (r : List Int) (x lo hi : Int), (∀ y ∈ x :: r, lo ≤ y ∧ y ≤ hi) → lo ≤ r.foldl max x ∧ r.foldl max x ≤ hi
  | [], x, lo, hi, h => h x (by simp)
  | y :: r, x, lo, hi, h => by
    rw [List.foldl_cons]
    refine maxV_in r (max x y) lo hi fun z hz => ?_
    rcases List.mem_cons.1 hz with rfl | hz
    · have h1 := h x (by simp)
      have h2 := h y (by simp)
      omega
    · exact h z (by simp [hz])
theorem max_in {l : List Int} {lo hi : Int} (h : ∀ y ∈ l, lo ≤ y ∧ y ≤ hi) (hn : 1 ≤ l.length) : lo ≤ maxV l ∧ maxV l ≤ hi := by
  cases l with
  | nil => simp at hn
  | cons x r => exact maxV_in r x lo hi h
def tabs (m : Mt) : List Tab := [(headS, ⟨(hdT m).toArray⟩), (hheaS, ⟨(hhT m m.ad.length).toArray⟩), (hmtxS, ⟨(hmT m.ad m.be m.ad.length).toArray⟩), (maxpS, ⟨(mxT m.ad.length).toArray⟩)]
def tabC (m : Mt) (n : Nat) : Array Value := #[.string headS, .string ⟨(hdT m).toArray⟩, .string hheaS, .string ⟨(hhT m n).toArray⟩, .string hmtxS, .string ⟨(hmT m.ad m.be n).toArray⟩, .string maxpS, .string ⟨(mxT n).toArray⟩]
set_option maxRecDepth 8000 in
set_option maxHeartbeats 8000000 in
theorem bld_any (m : Mt) (aa ab : Option Addr) (n ca cb : Nat) (w : World) (hna : m.ad.length = n) (hnb : m.be.length = n) (hA : Lst w aa m.ad) (hB : Lst w ab m.be) (hg : goodB m = true) :
    Calls Tryz.prog 48 #[.agg (mcs m (.slice aa n ca) (.slice ab n cb))] w fun e w' => ∃ g, e = .returned (.tuple #[.slice (some ⟨g, 0, none⟩) 4 4, .int .i64 0]) ∧ Blk w' g (tabC m n) 94 ∧ w.heap.size ≤ g ∧ Below w.heap.size w w' := by
  obtain ⟨g1, g2, g3, g4, g5, g6, g7⟩ := good_in hg
  have hn1 : n ≤ 4096 := by omega
  have bw := (Below.refl w.heap.size w).alloc (Nat.le_refl _) (.cells (mcs m (.slice aa n ca) (.slice ab n cb)) 25)
  have CG := good_any m aa ab n n ca cb _ hna hnb (by omega) (by omega) (hA.below bw) (hB.below bw)
  rw [hg] at CG
  have CG2 := hide CG
  have s1 := g2 m.sc (by simp)
  have s2 := g2 m.de (by simp)
  have s3 := g2 m.ga (by simp)
  have s4 := max_in g6 (by omega)
  have C31 : Hid (∀ u : World, Calls Tryz.prog 89 #[.agg (mcs m (.slice aa n ca) (.slice ab n cb))] u fun e w' => ∃ g, e = .returned (.slice (some ⟨g, 0, none⟩) 54 54) ∧ Blk w' g (bcs (hdT m)) 5 ∧ u.heap.size ≤ g ∧ Below u.heap.size u w') := hide fun u => by
    cases hlg : m.lg
    · exact hed_f m aa n ca _ u (by omega) hlg (by omega) (fun x hx => by have := g3 x hx; omega)
    · exact hed_t m aa n ca _ u (by omega) hlg (by omega) (fun x hx => by have := g3 x hx; omega)
  have C33 := hide (fun (u : World) (hu : Below w.heap.size w u) => hhe_any m aa n ca (.slice ab n cb) u (by omega) hna (by omega) (hA.below hu) (by omega))
  have C34 := hide (fun (u : World) (hu : Below w.heap.size w u) => hmx_any m aa ab n ca cb u (by omega) hna hnb (hA.below hu) (hB.below hu) (fun x hx => by have := g6 x hx; omega) (fun x hx => by have := g7 x hx; omega))
  have C35 := hide (fun (u : World) => mxp_any m aa n ca (.slice ab n cb) u (by omega))
  have HB1 := hide bw
  have k1 := Blk.new w (mcs m (.slice aa n ca) (.slice ab n cb)) 25
  have T1 := hide (hdT_len m)
  have T2 := hide (hhT_len m n)
  have T3 := hide (hmT_len m.ad m.be n)
  have T4 := hide (mxT_len n)
  have HTC := hide (show tabC m n = #[.string headS, .string ⟨(hdT m).toArray⟩, .string hheaS, .string ⟨(hhT m n).toArray⟩, .string hmtxS, .string ⟨(hmT m.ad m.be n).toArray⟩, .string maxpS, .string ⟨(mxT n).toArray⟩] from rfl)
  generalize hdT m = D1 at C31 T1 HTC
  generalize hhT m n = D2 at C33 T2 HTC
  generalize hmT m.ad m.be n = D3 at C34 T3 HTC
  generalize mxT n = D4 at C35 T4 HTC
  generalize tabC m n = TC at HTC ⊢
  clear CG g1 g2 g3 g4 g5 g6 g7 s1 s2 s3 s4 hg hna hnb hA hB bw hn1
  obtain ⟨up, sc, de, ga, b0, b1, b2, b3, lg, ad, be⟩ := m
  have HK := hide k1
  clear k1
  simp only [mcs] at CG2 C31 C33 C34 C35 HB1 HK ⊢
  go_enter Tryz.func48, Tryz.ntmps48
  go_wp2_with fail
  refine CG2.out.mono ?_
  rintro e V ⟨rfl, h1⟩
  have HBV := hide (below_t5 HB1.out h1)
  have k2 := HK.out.below h1
  have xlt := k2.lt
  obtain ⟨x, hx⟩ : ∃ x, w.heap.size = x := ⟨_, rfl⟩
  rw [hx] at k2 xlt ⊢
  have KS := hide (fun (u : World) (hu : Below V.heap.size V u) => k2.below hu)
  clear HK HB1 CG2 h1 hx k2
  go_wp2_with fail
  have KSS := hide (show ∀ u, Below V.heap.size V u → (fun u : World => u.cell? ⟨x, 0, none⟩ = some (.int .i64 up) ∧ u.cell? ⟨x, 1, none⟩ = some (.int .i64 sc) ∧ u.cell? ⟨x, 2, none⟩ = some (.int .i64 de) ∧ u.cell? ⟨x, 3, none⟩ = some (.int .i64 ga) ∧ u.cell? ⟨x, 4, none⟩ = some (.int .i64 b0) ∧ u.cell? ⟨x, 5, none⟩ = some (.int .i64 b1) ∧ u.cell? ⟨x, 6, none⟩ = some (.int .i64 b2) ∧ u.cell? ⟨x, 7, none⟩ = some (.int .i64 b3) ∧ u.cell? ⟨x, 8, none⟩ = some (.bool lg) ∧ u.cell? ⟨x, 9, none⟩ = some (.slice aa n ca) ∧ u.cell? ⟨x, 10, none⟩ = some (.slice ab n cb)) u from fun u hu => by
    have k := KS.out u hu
    exact ⟨k.cell 0, k.cell 1, k.cell 2, k.cell 3, k.cell 4, k.cell 5, k.cell 6, k.cell 7, k.cell 8, k.cell 9, k.cell 10⟩)
  have HV := hide (Below.refl V.heap.size V)
  go_region_held3 (fun u => u.cell? ⟨x, 0, none⟩ = some (.int .i64 up) ∧ u.cell? ⟨x, 1, none⟩ = some (.int .i64 sc) ∧ u.cell? ⟨x, 2, none⟩ = some (.int .i64 de) ∧ u.cell? ⟨x, 3, none⟩ = some (.int .i64 ga) ∧ u.cell? ⟨x, 4, none⟩ = some (.int .i64 b0) ∧ u.cell? ⟨x, 5, none⟩ = some (.int .i64 b1) ∧ u.cell? ⟨x, 6, none⟩ = some (.int .i64 b2) ∧ u.cell? ⟨x, 7, none⟩ = some (.int .i64 b3) ∧ u.cell? ⟨x, 8, none⟩ = some (.bool lg) ∧ u.cell? ⟨x, 9, none⟩ = some (.slice aa n ca) ∧ u.cell? ⟨x, 10, none⟩ = some (.slice ab n cb)) (first | exact KSS.out _ (below_d HV.out (Below.refl _ _) rfl rfl rfl rfl) | exact KSS.out _ (HV.out.alloc HV.out.size _)) ((first | (go_at_call 89; refine (C31.out _).mono ?_; rintro e w1 ⟨p1, rfl, hD1, hp1, hb⟩; replace HV := hide (below_d HV.out hb rfl rfl rfl rfl); clear hb hp1) | (go_at_call 91; refine (C33.out _ ?_).mono ?_; exact below_d HBV.out HV.out rfl rfl rfl rfl; rintro e w1 ⟨p2, rfl, hD2, hp2, hb⟩; replace HV := hide (below_d HV.out hb rfl rfl rfl rfl); clear hb hp2) | (go_at_call 92; refine (C34.out _ ?_).mono ?_; exact below_d HBV.out HV.out rfl rfl rfl rfl; rintro e w1 ⟨p3, rfl, hD3, hp3, hb⟩; replace HV := hide (below_d HV.out hb rfl rfl rfl rfl); clear hb hp3) | (go_at_call 93; refine (C35.out _).mono ?_; rintro e w1 ⟨p4, rfl, hD4, hp4, hb⟩; replace HV := hide (below_d HV.out hb rfl rfl rfl rfl); clear hb hp4) | (go_at_call 90; refine (named_any _ _ _ _ _ T4.out (by decide) hD4).mono ?_; rintro e w1 ⟨rfl, hb⟩; replace HV := hide (below_d HV.out hb rfl rfl rfl rfl); clear hb hD4) | (go_at_call 90; refine (named_any _ _ _ _ _ T3.out (by decide) hD3).mono ?_; rintro e w1 ⟨rfl, hb⟩; replace HV := hide (below_d HV.out hb rfl rfl rfl rfl); clear hb hD3) | (go_at_call 90; refine (named_any _ _ _ _ _ T2.out (by decide) hD2).mono ?_; rintro e w1 ⟨rfl, hb⟩; replace HV := hide (below_d HV.out hb rfl rfl rfl rfl); clear hb hD2) | (go_at_call 90; refine (named_any _ _ _ _ _ T1.out (by decide) hD1).mono ?_; rintro e w1 ⟨rfl, hb⟩; replace HV := hide (below_d HV.out hb rfl rfl rfl rfl); clear hb hD1)))
  all_goals
    have hal := HV.out.alloc HV.out.size (.cells TC 94)
    have kt := Blk.new w1 TC 94
    rw [HTC.out] at hal kt
    have HAL := hide (below_t5 HBV.out hal)
    have HKT := hide kt
    have HSZ : Hid (w.heap.size ≤ w1.heap.size) := hide (Nat.le_trans HBV.out.size HV.out.size)
    clear hal kt
    go_wp2_with fail
    go_ret2
    exact ⟨w1.heap.size, rfl, by rw [HTC.out]; exact HKT.out, HSZ.out, HAL.out⟩
end Go.Proofs.YtpdfpbbamnhkfaaGreatDoor
namespace Go.Proofs.YtpdfpbbamnhkfaaGreatDoor
set_option linter.unusedVariables false
theorem two_back (x : Int) (h0 : 0 ≤ x) (h1 : x ≤ 65535) : (((hiB x).toNat * 256 + (loB x).toNat : Nat) : Int) = x := by
  have e1 : (hiB x).toNat = (x / 256 % 256).toNat := by
    unfold hiB; rw [UInt8.toNat_ofNat']; have : (x / 256 % 256).toNat < 256 := by omega
    exact Nat.mod_eq_of_lt this
  have e2 : (loB x).toNat = (x % 256).toNat := by
    unfold loB; rw [UInt8.toNat_ofNat']; have : (x % 256).toNat < 256 := by omega
    exact Nat.mod_eq_of_lt this
  rw [e1, e2]
  omega
theorem two_mod (x : Int) : (((hiB x).toNat * 256 + (loB x).toNat : Nat) : Int) = x % 65536 := by
  have e1 : (hiB x).toNat = (x / 256 % 256).toNat := by
    unfold hiB; rw [UInt8.toNat_ofNat']; have : (x / 256 % 256).toNat < 256 := by omega
    exact Nat.mod_eq_of_lt this
  have e2 : (loB x).toNat = (x % 256).toNat := by
    unfold loB; rw [UInt8.toNat_ofNat']; have : (x % 256).toNat < 256 := by omega
    exact Nat.mod_eq_of_lt this
  rw [e1, e2]
  omega
theorem n2_is {l : List UInt8} {k : Nat} {x : Int} (h : n2 l k = (hiB x).toNat * 256 + (loB x).toNat) (h0 : 0 ≤ x) (h1 : x ≤ 65535) : ((n2 l k : Nat) : Int) = x := by
  rw [h]; exact two_back x h0 h1
theorem s2_is {l : List UInt8} {k : Nat} {x : Int} (h : n2 l k = (hiB x).toNat * 256 + (loB x).toNat) (h0 : -32768 ≤ x) (h1 : x ≤ 32767) : s2 l k = x := by
  have e : ((n2 l k : Nat) : Int) = x % 65536 := by rw [h]; exact two_mod x
  unfold s2
  split <;> omega
def lgI (b : Bool) : Int := if b then 1 else 0
theorem hdT_b (m : Mt) : putL (putL (putL (cpy (cpy (cpy (zers 54) 0 verS.data.toList) 4 verS.data.toList) 12 magicS.data.toList) 18 [m.up]) 36 [m.b0, m.b1, m.b2, m.b3]) 48 [2] = [0, 1, 0, 0, 0, 1, 0, 0, 0, 0, 0, 0, 95, 15, 60, 245, 0, 0, hiB m.up, loB m.up, 0, 0, 0, 0, 0, 0, 0, 0, 0, 0, 0, 0, 0, 0, 0, 0, hiB m.b0, loB m.b0, hiB m.b1, loB m.b1, hiB m.b2, loB m.b2, hiB m.b3, loB m.b3, 0, 0, 0, 0, hiB 2, loB 2, 0, 0, 0, 0] := rfl
theorem hdT_c (m : Mt) : putL [0, 1, 0, 0, 0, 1, 0, 0, 0, 0, 0, 0, 95, 15, 60, 245, 0, 0, hiB m.up, loB m.up, 0, 0, 0, 0, 0, 0, 0, 0, 0, 0, 0, 0, 0, 0, 0, 0, hiB m.b0, loB m.b0, hiB m.b1, loB m.b1, hiB m.b2, loB m.b2, hiB m.b3, loB m.b3, 0, 0, 0, 0, hiB 2, loB 2, 0, 0, 0, 0] 50 [1] = [0, 1, 0, 0, 0, 1, 0, 0, 0, 0, 0, 0, 95, 15, 60, 245, 0, 0, hiB m.up, loB m.up, 0, 0, 0, 0, 0, 0, 0, 0, 0, 0, 0, 0, 0, 0, 0, 0, hiB m.b0, loB m.b0, hiB m.b1, loB m.b1, hiB m.b2, loB m.b2, hiB m.b3, loB m.b3, 0, 0, 0, 0, hiB 2, loB 2, hiB 1, loB 1, 0, 0] := rfl
theorem hdT_eq (m : Mt) : hdT m = [0, 1, 0, 0, 0, 1, 0, 0, 0, 0, 0, 0, 95, 15, 60, 245, 0, 0, hiB m.up, loB m.up, 0, 0, 0, 0, 0, 0, 0, 0, 0, 0, 0, 0, 0, 0, 0, 0, hiB m.b0, loB m.b0, hiB m.b1, loB m.b1, hiB m.b2, loB m.b2, hiB m.b3, loB m.b3, 0, 0, 0, 0, hiB 2, loB 2, hiB (lgI m.lg), loB (lgI m.lg), 0, 0] := by
  unfold hdT
  rw [hdT_b, hdT_c]
  cases m.lg
  · rw [show hiB (lgI false) = 0 by decide, show loB (lgI false) = 0 by decide]; exact if_neg (by simp)
  · rw [show lgI true = 1 from rfl]; exact if_pos rfl
theorem hhT_eq (m : Mt) (n : Nat) : hhT m n = [0, 1, 0, 0, hiB m.sc, loB m.sc, hiB m.de, loB m.de, hiB m.ga, loB m.ga, hiB (maxV m.ad), loB (maxV m.ad), 0, 0, 0, 0, 0, 0, 0, 0, 0, 0, 0, 0, 0, 0, 0, 0, 0, 0, 0, 0, 0, 0, hiB (n : Int), loB (n : Int)] := rfl
theorem mxT_eq (n : Nat) : mxT n = [0, 1, 0, 0, hiB (n : Int), loB (n : Int), 0, 0, 0, 0, 0, 0, 0, 0, hiB 2, loB 2, 0, 0, 0, 0, 0, 0, 0, 0, 0, 0, 0, 0, 0, 0, 0, 0] := rfl
def flatB (zs : List Int) : List UInt8 := zs.flatMap fun x => [hiB x, loB x]
theorem putL_flat : ∀ (zs : List Int) (pre rest : List UInt8), 2 * zs.length ≤ rest.length → putL (pre ++ rest) pre.length zs = pre ++ flatB zs ++ rest.drop (2 * zs.length)
  | [], pre, rest, _ => by simp [putL, flatB]
  | x :: r, pre, rest, h => by
    obtain ⟨a, b, rest', rfl⟩ : ∃ a b t, rest = a :: b :: t := by
      match rest, h with
      | a :: b :: t, _ => exact ⟨a, b, t, rfl⟩
      | [a], h => simp at h; omega
      | [], h => simp at h
    have e : put1 (pre ++ a :: b :: rest') pre.length x = (pre ++ [hiB x, loB x]) ++ rest' := by
      unfold put1
      simp
    have ih := putL_flat r (pre ++ [hiB x, loB x]) rest' (by simp at h; omega)
    rw [putL, e, show pre.length + 2 = (pre ++ [hiB x, loB x]).length by simp, ih]
    unfold flatB
    rw [List.flatMap_cons, List.length_cons, show 2 * (r.length + 1) = 2 * r.length + 2 by omega]
    simp
theorem hmT_eq (ad be : List Int) (n : Nat) : hmT ad be n = flatB (ilv ad be n) := by
  have := putL_flat (ilv ad be n) [] (zers (4 * n)) (by rw [zers_len, ilv_len]; omega)
  unfold hmT
  simp only [List.nil_append, List.length_nil] at this
  rw [this, List.drop_of_length_le (by rw [zers_len, ilv_len]; omega), List.append_nil]
theorem flatB_at : ∀ (zs : List Int) (i : Nat), i < zs.length → n2 (flatB zs) (2 * i) = (hiB (zs.getD i 0)).toNat * 256 + (loB (zs.getD i 0)).toNat
  | [], i, h => by simp at h
  | x :: r, 0, _ => rfl
  | x :: r, i + 1, h => by
    have ih := flatB_at r i (by simpa using h)
    unfold n2 bt at *
    rw [show 2 * (i + 1) = 2 * i + 1 + 1 by omega]
    exact ih
theorem ilv_at (ad be : List Int) : ∀ (n i : Nat), i < n → (ilv ad be n).getD (2 * i) 0 = ad.getD i 0 ∧ (ilv ad be n).getD (2 * i + 1) 0 = be.getD i 0 := by
  intro n
  induction n with
  | zero => intro i h; omega
  | succ n ih =>
    intro i h
    rw [ilv_succ]
    simp only [List.getD_eq_getElem?_getD] at *
    rcases Nat.lt_or_ge i n with h' | h'
    · have := ih i h'
      rw [List.getElem?_append_left (l₂ := _) (i := 2 * i) (by rw [ilv_len]; omega), List.getElem?_append_left (i := 2 * i + 1) (by rw [ilv_len]; omega)]
      exact this
    · obtain rfl : i = n := by omega
      rw [List.getElem?_append_right (i := 2 * i) (by rw [ilv_len]; omega), List.getElem?_append_right (i := 2 * i + 1) (by rw [ilv_len]; omega), ilv_len]
      rw [show 2 * i - 2 * i = 0 by omega, show 2 * i + 1 - 2 * i = 1 by omega]
      simp
end Go.Proofs.YtpdfpbbamnhkfaaGreatDoor
namespace Go.Proofs.YtpdfpbbamnhkfaaGreatDoor
set_option linter.unusedVariables false
theorem ext_list (l : List UInt8) (a b : Nat) : ((⟨l.toArray⟩ : ByteArray).extract a b) = ⟨((l.drop a).take (b - a)).toArray⟩ := by
  apply ByteArray.ext
  rw [ByteArray.data_extract]
  simp [List.extract]
theorem say_list {l : List UInt8} {k : Nat} {t : ByteArray} (h : (l.drop k).take (k + t.size - k) = t.data.toList) : sayB ⟨l.toArray⟩ k t = true := by
  unfold sayB
  rw [eqS_iff, ext_list, h]
theorem ty (a b : ByteArray) (h : a = b) : eqS a b = true := (eqS_iff a b).2 h
theorem e_head_head : eqS headS headS = true := ty _ _ rfl
theorem e_head_hhea : eqS headS hheaS = false := eqS_no (by decide)
theorem e_head_hmtx : eqS headS hmtxS = false := eqS_no (by decide)
theorem e_head_maxp : eqS headS maxpS = false := eqS_no (by decide)
theorem e_hhea_hhea : eqS hheaS hheaS = true := ty _ _ rfl
theorem e_hhea_hmtx : eqS hheaS hmtxS = false := eqS_no (by decide)
theorem e_hhea_maxp : eqS hheaS maxpS = false := eqS_no (by decide)
theorem e_hmtx_hmtx : eqS hmtxS hmtxS = true := ty _ _ rfl
theorem e_hmtx_maxp : eqS hmtxS maxpS = false := eqS_no (by decide)
theorem e_maxp_maxp : eqS maxpS maxpS = true := ty _ _ rfl
theorem fin_cons (x : Tab) (l : List Tab) (t : ByteArray) : finV (x :: l) t = if eqS x.1 t = true then some x.2 else finV l t := by
  unfold finV
  rw [List.find?_cons]
  cases eqS x.1 t <;> rfl
theorem fin_mx (m : Mt) : finV (tabs m) maxpS = some ⟨(mxT m.ad.length).toArray⟩ := by
  simp only [tabs, fin_cons, e_head_maxp, e_hhea_maxp, e_hmtx_maxp, e_maxp_maxp]
  simp
theorem fin_hd (m : Mt) : finV (tabs m) headS = some ⟨(hdT m).toArray⟩ := by
  simp only [tabs, fin_cons, e_head_head]
  simp
theorem fin_hh (m : Mt) : finV (tabs m) hheaS = some ⟨(hhT m m.ad.length).toArray⟩ := by
  simp only [tabs, fin_cons, e_head_hhea, e_hhea_hhea]
  simp
theorem fin_hx (m : Mt) : finV (tabs m) hmtxS = some ⟨(hmT m.ad m.be m.ad.length).toArray⟩ := by
  simp only [tabs, fin_cons, e_head_hmtx, e_hhea_hmtx, e_hmtx_hmtx]
  simp
theorem nv_is (n : Nat) (h : n ≤ 4096) : nV ⟨(mxT n).toArray⟩ = n := by
  have := n2_is (l := mxT n) (k := 4) (x := (n : Int)) (by rw [mxT_eq]; rfl) (by omega) (by omega)
  show n2 (mxT n) 4 = n
  omega
theorem hv_is (m : Mt) (n : Nat) (h : n ≤ 4096) : hV ⟨(hhT m n).toArray⟩ = n := by
  have := n2_is (l := hhT m n) (k := 34) (x := (n : Int)) (by rw [hhT_eq]; rfl) (by omega) (by omega)
  show n2 (hhT m n) 34 = n
  omega
structure Back (m : Mt) (mx hd hh hx : ByteArray) : Prop where
  r : readV (tabs m) = some (mx, hd, hh, hx)
  n : nV mx = m.ad.length
  h : hV hh = m.ad.length
  up : ((n2 hd.data.toList 18 : Nat) : Int) = m.up
  sc : s2 hh.data.toList 4 = m.sc
  de : s2 hh.data.toList 6 = m.de
  ga : s2 hh.data.toList 8 = m.ga
  b0 : s2 hd.data.toList 36 = m.b0
  b1 : s2 hd.data.toList 38 = m.b1
  b2 : s2 hd.data.toList 40 = m.b2
  b3 : s2 hd.data.toList 42 = m.b3
  lg : (((n2 hd.data.toList 50 : Nat) : Int) == 1) = m.lg
  ad : ∀ i, i < m.ad.length → advF hx (hV hh) i = m.ad.getD i 0
  be : ∀ i, i < m.ad.length → beaF hx (hV hh) i = m.be.getD i 0
set_option maxRecDepth 4000 in
theorem back_of (m : Mt) (hg : goodB m = true) : Back m ⟨(mxT m.ad.length).toArray⟩ ⟨(hdT m).toArray⟩ ⟨(hhT m m.ad.length).toArray⟩ ⟨(hmT m.ad m.be m.ad.length).toArray⟩ := by
  obtain ⟨g1, g2, g3, g4, g5, g6, g7⟩ := good_in hg
  have hn := nv_is m.ad.length (by omega)
  have hh := hv_is m m.ad.length (by omega)
  have q1 := g2 m.sc (by simp)
  have q2 := g2 m.de (by simp)
  have q3 := g2 m.ga (by simp)
  have p0 := g3 m.b0 (by simp)
  have p1 := g3 m.b1 (by simp)
  have p2 := g3 m.b2 (by simp)
  have p3 := g3 m.b3 (by simp)
  have e18 : ((n2 (hdT m) 18 : Nat) : Int) = m.up := n2_is (by rw [hdT_eq]; rfl) (by omega) (by omega)
  have e50 : ((n2 (hdT m) 50 : Nat) : Int) = lgI m.lg := n2_is (by rw [hdT_eq]; rfl) (by unfold lgI; split <;> omega) (by unfold lgI; split <;> omega)
  have e52 : n2 (hdT m) 52 = 0 := by rw [hdT_eq]; simp [n2, bt]
  have e32 : n2 (hhT m m.ad.length) 32 = 0 := by rw [hhT_eq]; simp [n2, bt]
  have bmx : mxB ⟨(mxT m.ad.length).toArray⟩ = true := by
    unfold mxB
    rw [say_list (t := verS) (by rw [mxT_eq]; rfl), Bool.or_true, Bool.true_and, wiB_one]
    have : n2 (mxT m.ad.length) 4 = m.ad.length := hn
    simp only [this]
    simp
    omega
  have bhd : hdB ⟨(hdT m).toArray⟩ = true := by
    unfold hdB
    rw [say_list (t := verS) (by rw [hdT_eq]; rfl), say_list (t := magicS) (by rw [hdT_eq]; rfl), wiB_one, wiB_one]
    simp only [e18, e50, e52]
    cases m.lg <;> simp [lgI] <;> omega
  have bhh : hhB ⟨(hhT m m.ad.length).toArray⟩ (nV ⟨(mxT m.ad.length).toArray⟩ : Int) = true := by
    unfold hhB
    rw [say_list (t := verS) (by rw [hhT_eq]; rfl), wiB_one, hn]
    have : n2 (hhT m m.ad.length) 34 = m.ad.length := hh
    simp only [this, e32]
    simp
    omega
  have z1 : (mxT m.ad.length).toArray.size = 32 := by simp [mxT_len]
  refine ⟨rdv_yes (fin_mx m) (fin_hd m) (fin_hh m) (fin_hx m) ?_, hn, hh, e18, s2_is (by rw [hhT_eq]; rfl) q1.1 q1.2, s2_is (by rw [hhT_eq]; rfl) q2.1 q2.2, s2_is (by rw [hhT_eq]; rfl) q3.1 q3.2, s2_is (by rw [hdT_eq]; rfl) p0.1 p0.2, s2_is (by rw [hdT_eq]; rfl) p1.1 p1.2, s2_is (by rw [hdT_eq]; rfl) p2.1 p2.2, s2_is (by rw [hdT_eq]; rfl) p3.1 p3.2, ?_, ?_, ?_⟩
  · unfold allB
    rw [bmx, bhd, bhh, hn, hh]
    simp [ByteArray.size, mxT_len, hdT_len, hhT_len, hmT_len]
  · show (((n2 (hdT m) 50 : Nat) : Int) == 1) = m.lg
    rw [e50]
    cases m.lg <;> decide
  · intro i hi
    unfold advF
    rw [hh, if_pos hi]
    show ((n2 (hmT m.ad m.be m.ad.length) (4 * i) : Nat) : Int) = _
    have := flatB_at (ilv m.ad m.be m.ad.length) (2 * i) (by rw [ilv_len]; omega)
    rw [(ilv_at m.ad m.be m.ad.length i hi).1, ← hmT_eq, show 2 * (2 * i) = 4 * i by omega] at this
    have q := g6 (m.ad.getD i 0) (by rw [List.getD_eq_getElem?_getD, List.getElem?_eq_getElem hi]; exact List.getElem_mem _)
    exact n2_is this q.1 q.2
  · intro i hi
    unfold beaF
    rw [hh, if_pos hi]
    show s2 (hmT m.ad m.be m.ad.length) (4 * i + 2) = _
    have := flatB_at (ilv m.ad m.be m.ad.length) (2 * i + 1) (by rw [ilv_len]; omega)
    rw [(ilv_at m.ad m.be m.ad.length i hi).2, ← hmT_eq, show 2 * (2 * i + 1) = 4 * i + 2 by omega] at this
    have q := g7 (m.be.getD i 0) (by rw [List.getD_eq_getElem?_getD, List.getElem?_eq_getElem (by omega)]; exact List.getElem_mem _)
    exact s2_is this q.1 q.2
end Go.Proofs.YtpdfpbbamnhkfaaGreatDoor
