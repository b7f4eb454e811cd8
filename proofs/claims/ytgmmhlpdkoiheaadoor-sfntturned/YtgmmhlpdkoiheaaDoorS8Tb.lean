/-
  What the landed lay answers of any tables.
-/
import Derived.Test.YtgmmhlpdkoiheaaDoorS8Ta
import Derived.Test.YtgmmhlpdkoiheaaDoorS8Tp
namespace Go.Proofs.YtgmmhlpdkoiheaaDoor
open Go.RowKit Go.Deep
set_option linter.unusedVariables false
set_option linter.unusedSimpArgs false

def lyRw (m : List Tab) (k : Nat) : Rw := ⟨(m.getD k tz).1.data.toList.getD 0 0, (m.getD k tz).1.data.toList.getD 1 0, (m.getD k tz).1.data.toList.getD 2 0, (m.getD k tz).1.data.toList.getD 3 0, 0, (plT m k : Int), ((m.getD k tz).2.size : Int)⟩
def lyRs (m : List Tab) (k : Nat) : List Rw := (List.range k).map (lyRw m)
theorem lyRs_len (m : List Tab) (k : Nat) : (lyRs m k).length = k := by unfold lyRs; simp
theorem lyRs_succ (m : List Tab) (k : Nat) : lyRs m (k + 1) = lyRs m k ++ [lyRw m k] := by unfold lyRs; exact map_range_succ _ _
theorem lyRs_at (m : List Tab) (n i : Nat) (h : i < n) : (lyRs m n)[i]? = some (lyRw m i) := by unfold lyRs; simp [h]
theorem tgT_ly (m : List Tab) (k : Nat) (h : (m.getD k tz).1.size = 4) : tgT (lyRw m k) = (m.getD k tz).1.data.toList := by
  obtain ⟨b0, b1, b2, b3, e⟩ := four_of h
  unfold tgT lyRw
  rw [e]; rfl
theorem goodT_ly (m : List Tab) (k : Nat) (h : (m.getD k tz).1.size = 4) : goodT (lyRw m k) = tagB (m.getD k tz).1 := by
  obtain ⟨b0, b1, b2, b3, e⟩ := four_of h
  unfold goodT lyRw tagB
  rw [e]; rfl
theorem rise_eq : ∀ (rs : List Rw) (m : List Tab) (a : List UInt8), rs.length = m.length → (∀ (i : Nat) (r : Rw) (x : Tab), rs[i]? = some r → m[i]? = some x → tgT r = x.1.toList ∧ goodT r = tagB x.1) → riseB a rs = riseM a m
  | [], [], a, _, _ => rfl
  | [], x :: m, a, h, _ => by simp at h
  | r :: rs, [], a, h, _ => by simp at h
  | r :: rs, x :: m, a, h, hh => by
    obtain ⟨h1, h2⟩ := hh 0 r x rfl rfl
    rw [riseB, riseM, h1, h2, rise_eq rs m _ (by simpa using h) (fun i r' x' hi hx => hh (i + 1) r' x' (by simpa using hi) (by simpa using hx))]
theorem rise_ly (m : List Tab) (n : Nat) (hn : m.length = n) (h : ∀ x ∈ m, x.1.size = 4) : riseB [0, 0, 0, 0] (lyRs m n) = riseM [0, 0, 0, 0] m := by
  refine rise_eq _ _ _ (by rw [lyRs_len, hn]) fun i r x hi hx => ?_
  obtain ⟨hil, hxe⟩ := List.getElem?_eq_some_iff.1 hx
  rw [lyRs_at m n i (by omega)] at hi
  have e : m.getD i tz = x := by rw [getD_some m i hil, hxe]
  have h4 : (m.getD i tz).1.size = 4 := by rw [e]; exact h x (List.mem_of_getElem? hx)
  injection hi with hi
  subst hi
  exact ⟨by rw [tgT_ly m i h4, e, Lib.toList_data], by rw [goodT_ly m i h4, e]⟩
theorem pl_bd (m : List Tab) (n : Nat) (hn : m.length ≤ 32) (hz : ∀ x ∈ m, x.2.size ≤ 1073741824) : ∀ k, k ≤ n → n ≤ m.length → plT m k ≤ 1000 + k * 1073741828
  | 0, _, _ => by unfold plT; rw [bodT]; simp; omega
  | k + 1, hk, h => by
    have ih := pl_bd m n hn hz k (by omega) h
    rw [pl_step]
    have := hz _ (List.getElem_mem (show k < m.length by omega))
    rw [getD_some m k (by omega)]
    omega
theorem copy_tagG (V : World) (b : Nat) (b0 b1 b2 b3 : UInt8) (x4 x5 x6 : Value) (k : Blk V b #[.int .u8 0, .int .u8 0, .int .u8 0, .int .u8 0, x4, x5, x6] 56) :
    ∃ W2, (Builtin.copy_ #[45, 9] 3 #[.slice (some ⟨b, 0, none⟩) 4 4, .string (tgS b0 b1 b2 b3)]).run Tryd.prog V = .ok (.int .i64 4) W2 ∧ Blk W2 b #[.int .u8 (b0.toNat : Int), .int .u8 (b1.toNat : Int), .int .u8 (b2.toNat : Int), .int .u8 (b3.toNat : Int), x4, x5, x6] 56 ∧ Below b V W2 := by
  have hcp := run_copy_str8 V 3 b 0 4 4 (tgS b0 b1 b2 b3) (by show 4 ≤ 4; omega) (fun j hj => by rw [Nat.zero_add, k.cell j]; simp; omega) (fun j hj => k.frozen _)
  have h0 : Blk (V.setCell ⟨b, 0, none⟩ (.int .u8 (b0.toNat : Int))) b #[.int .u8 (b0.toNat : Int), .int .u8 0, .int .u8 0, .int .u8 0, x4, x5, x6] 56 := k.set 0 _
  have h1 : Blk ((V.setCell ⟨b, 0, none⟩ (.int .u8 (b0.toNat : Int))).setCell ⟨b, 1, none⟩ (.int .u8 (b1.toNat : Int))) b #[.int .u8 (b0.toNat : Int), .int .u8 (b1.toNat : Int), .int .u8 0, .int .u8 0, x4, x5, x6] 56 := h0.set 1 _
  have h2 : Blk (((V.setCell ⟨b, 0, none⟩ (.int .u8 (b0.toNat : Int))).setCell ⟨b, 1, none⟩ (.int .u8 (b1.toNat : Int))).setCell ⟨b, 2, none⟩ (.int .u8 (b2.toNat : Int))) b #[.int .u8 (b0.toNat : Int), .int .u8 (b1.toNat : Int), .int .u8 (b2.toNat : Int), .int .u8 0, x4, x5, x6] 56 := h1.set 2 _
  have h3 : Blk ((((V.setCell ⟨b, 0, none⟩ (.int .u8 (b0.toNat : Int))).setCell ⟨b, 1, none⟩ (.int .u8 (b1.toNat : Int))).setCell ⟨b, 2, none⟩ (.int .u8 (b2.toNat : Int))).setCell ⟨b, 3, none⟩ (.int .u8 (b3.toNat : Int))) b #[.int .u8 (b0.toNat : Int), .int .u8 (b1.toNat : Int), .int .u8 (b2.toNat : Int), .int .u8 (b3.toNat : Int), x4, x5, x6] 56 := h2.set 3 _
  refine ⟨_, hcp, h3, ?_⟩
  exact ((((Below.refl b V).setCell (p := ⟨b, 0, none⟩) (Nat.le_refl _) (.int .u8 (b0.toNat : Int))).setCell (p := ⟨b, 1, none⟩) (Nat.le_refl _) (.int .u8 (b1.toNat : Int))).setCell (p := ⟨b, 2, none⟩) (Nat.le_refl _) (.int .u8 (b2.toNat : Int))).setCell (p := ⟨b, 3, none⟩) (Nat.le_refl _) (.int .u8 (b3.toNat : Int))
theorem RAt.of {w : World} {b : Nat} {r : Rw} {t : TypeId} (K : Blk w b (rwC r) t) : b < w.heap.size ∧ w.cell? ⟨b, 0, none⟩ = some (.int .u8 (r.b0.toNat : Int)) ∧ w.cell? ⟨b, 1, none⟩ = some (.int .u8 (r.b1.toNat : Int)) ∧ w.cell? ⟨b, 2, none⟩ = some (.int .u8 (r.b2.toNat : Int)) ∧ w.cell? ⟨b, 3, none⟩ = some (.int .u8 (r.b3.toNat : Int)) ∧ w.cell? ⟨b, 4, none⟩ = some (.int .i64 r.sum) ∧ w.cell? ⟨b, 5, none⟩ = some (.int .i64 r.pl) ∧ w.cell? ⟨b, 6, none⟩ = some (.int .i64 r.ln) :=
  ⟨K.lt, K.cell 0, K.cell 1, K.cell 2, K.cell 3, K.cell 4, K.cell 5, K.cell 6⟩
def LyR (w : World) (m : List Tab) (n : Nat) (e : Ending) (w' : World) : Prop :=
  Below w.heap.size w w' ∧ (((∃ x ∈ m, x.1.size ≠ 4) ∧ e = .returned (.tuple #[.slice none 0 0, .int .i64 0, .bool false])) ∨
    ((∀ x ∈ m, x.1.size = 4) ∧ ∃ b cap, e = .returned (.tuple #[.slice (some ⟨b, 0, none⟩) n cap, .int .i64 (plT m n : Int), .bool (riseM [0, 0, 0, 0] m)]) ∧ RLst w' b (lyRs m n)))
set_option maxRecDepth 8000 in
set_option maxHeartbeats 4000000 in
theorem lay_any (g c n : Nat) (m : List Tab) (w : World) (hn : m.length = n) (h1 : 1 ≤ n) (h2 : n ≤ 32) (hz : ∀ x ∈ m, x.1.size ≤ 1073741824 ∧ x.2.size ≤ 1073741824) (hg : g < w.heap.size)
    (hL : ∀ i x, m[i]? = some x → w.cell? ⟨g, i * 2, none⟩ = some (.string x.1) ∧ w.cell? ⟨g, i * 2 + 1, none⟩ = some (.string x.2)) :
    Calls Tryd.prog 37 #[.slice (some ⟨g, 0, none⟩) n c] w (LyR w m n) := by
  have h1' : (1 : Int) ≤ (n : Int) := by omega
  have h2' : (n : Int) ≤ 32 := by omega
  have CD1 := hide (fun (w : World) => dsize_any (n : Int) w (by omega) (by omega))
  have CF := hide (fun (x : Int) (w : World) h0 h1 => filled_any x w h0 h1)
  have HL := hide hL
  have HN := hide hn
  have HZ := hide hz
  have HP := hide (pl_bd m n (by omega) (fun x hx => (hz x hx).2))
  have H12 := hide (And.intro h1 h2)
  clear hL hn hz h1 h2
  go_enter Tryd.func37, Tryd.ntmps37
  go_wp2_with (go_at_call 44; refine (CD1.out _).mono ?_; rintro e w' ⟨rfl, hw'⟩; replace hw' := hw'.symm; subst hw')
  go_loopw [5, 6, 15] (fun vr vs vi wr => ∃ k : Nat, vi = .int .i64 k ∧ vs = .int .i64 (plT m k : Int) ∧ Hid (k ≤ n ∧ RRow wr w.heap.size vr (lyRs m k) ∧ Below w.heap.size w wr ∧ ∀ i x, i < k → m[i]? = some x → x.1.size = 4)) (fun _ _ vi _ => n - (intOf vi).toNat)
  case atStart =>
    refine ⟨0, rfl, ?_, hide ⟨by omega, RRow.nil _ _, Below.refl _ _, fun i x hi => by omega⟩⟩
    unfold plT
    rw [bodT, HN.out]
    simp
  case round =>
    obtain ⟨vr, hvr⟩ : ∃ v, v = u5 := ⟨_, rfl⟩
    subst hvr
    obtain ⟨k, rfl, rfl, HV⟩ := hrel
    obtain ⟨hk, hT, hb, hall⟩ := HV.out
    have hk0 : (0 : Int) ≤ (k : Int) := by omega
    clear HV
    by_cases hlt : k < n
    case neg =>
      obtain rfl : n = k := by omega
      have hlt' : ¬ (n : Int) < (n : Int) := by omega
      have ha4 : ∀ x ∈ m, x.1.size = 4 := fun x hx => by
        obtain ⟨i, hi, rfl⟩ := List.getElem_of_mem hx
        exact hall i _ (by have := HN.out; omega) (List.getElem?_eq_getElem hi)
      obtain ⟨b, cap, hv, hRL⟩ := hT.lst (by rw [lyRs_len]; have := H12.out; omega)
      rw [lyRs_len] at hv
      subst hv
      have hte := tagsRise_any (lyRs m n) b n cap wr (lyRs_len _ _) (by have := H12.out; omega) hRL
      rw [rise_ly m n HN.out ha4] at hte
      have CT := hide hte
      have HRL := hide hRL
      have HB := hide hb
      have HA4 := hide ha4
      clear hT hb hall hRL ha4 hte
      go_wp2_with (go_at_call 46; refine CT.out.mono ?_; rintro e w9 ⟨rfl, h9⟩)
      go_ret3
      exact ⟨below_t5 HB.out h9, Or.inr ⟨HA4.out, _, _, rfl, HRL.out.below h9⟩⟩
    have hlt' : (k : Int) < (n : Int) := by omega
    obtain ⟨x, hx⟩ : ∃ x, m[k]? = some x := ⟨_, List.getElem?_eq_getElem (by have := HN.out; omega)⟩
    have hxm := List.mem_of_getElem? hx
    obtain ⟨c0, c1⟩ := HL.out k x hx
    rw [← hb.cell (p := ⟨g, k * 2, none⟩) hg] at c0
    rw [← hb.cell (p := ⟨g, k * 2 + 1, none⟩) hg] at c1
    obtain ⟨hz1, hz2⟩ := HZ.out x hxm
    have hxe : m.getD k tz = x := by rw [List.getD_eq_getElem?_getD, hx]; rfl
    have hgw : g < wr.heap.size := Nat.lt_of_lt_of_le hg hb.size
    have hne : g ≠ wr.heap.size := by omega
    obtain ⟨P, hP⟩ : ∃ P, plT m k = P := ⟨_, rfl⟩
    have hPb : (P : Int) ≤ 40000000000 := by have := HP.out k hk (by have := HN.out; omega); have := H12.out; rw [hP] at *; omega
    have hPn := pl_step m k
    rw [hP, hxe] at hPn
    have hly : lyRw m k = ⟨x.1.data.toList.getD 0 0, x.1.data.toList.getD 1 0, x.1.data.toList.getD 2 0, x.1.data.toList.getD 3 0, 0, (P : Int), (x.2.size : Int)⟩ := by unfold lyRw; rw [hxe, hP]
    rw [hP]
    obtain ⟨x1, x2⟩ := x
    simp only at c0 c1 hz1 hz2 hPn hly
    have hx2 : (x2.size : Int) ≤ 1073741824 := by omega
    have hx1 : (x1.size : Int) ≤ 1073741824 := by omega
    by_cases h4 : x1.size = 4
    case neg =>
      have h4' : ((x1.size : Int) != 4) = true := by simp; omega
      have HB := hide hb
      have HX := hide (show ∃ x ∈ m, x.1.size ≠ 4 from ⟨_, hxm, h4⟩)
      clear hT hb hall hx hxe hP hPn hly h4 hz1 hz2 hxm hPb
      go_wp2_with fail
      go_ret3
      exact ⟨HB.out.alloc HB.out.size _, Or.inl ⟨HX.out, rfl⟩⟩
    have h4' : ((x1.size : Int) != 4) = false := by simp; omega
    obtain ⟨b0, b1, b2, b3, rfl⟩ := four_of h4
    obtain ⟨va, vc, hvs⟩ := hT.shape
    rw [lyRs_len] at hvs
    subst hvs
    have hown : ∀ j, wr.heap.size ≤ j → some j ≠ (Value.slice va k vc).ownBlock := fun j hj e => by have := hT.own_lt e; omega
    have HOWN := hide hown
    have HT := hide hT
    have HB := hide hb
    have HALL := hide hall
    have HX := hide hx
    have HPN := hide hPn
    have HLY := hide hly
    have HLS := hide (lyRs_succ m k)
    clear hT hb hall hx hxe hP hPn hly h4 hz1 hz2 hxm hown
    go_wp2_with fail
    rename_i kk0
    have HA := hide kk0
    clear kk0
    have k0 := (Blk.new wr #[.string (tgS b0 b1 b2 b3), .string x2] 43).below ((Below.refl _ _).alloc (Nat.le_refl _) (.cells #[.int .u8 0, .int .u8 0, .int .u8 0, .int .u8 0, .int .i64 0, .int .i64 (P : Int), .int .i64 (x2.size : Int)] 56))
    have k1 := Blk.new (wr.alloc (.cells #[.string (tgS b0 b1 b2 b3), .string x2] 43)) #[.int .u8 0, .int .u8 0, .int .u8 0, .int .u8 0, .int .i64 0, .int .i64 (P : Int), .int .i64 (x2.size : Int)] 56
    rw [show (wr.alloc (.cells #[.string (tgS b0 b1 b2 b3), .string x2] 43)).heap.size = wr.heap.size + 1 by simp] at k1
    have hbv : Below wr.heap.size wr ((wr.alloc (.cells #[.string (tgS b0 b1 b2 b3), .string x2] 43)).alloc (.cells #[.int .u8 0, .int .u8 0, .int .u8 0, .int .u8 0, .int .i64 0, .int .i64 (P : Int), .int .i64 (x2.size : Int)] 56)) := ((Below.refl _ _).alloc (Nat.le_refl _) _).alloc (by simp) _
    generalize (wr.alloc (.cells #[.string (tgS b0 b1 b2 b3), .string x2] 43)).alloc (.cells #[.int .u8 0, .int .u8 0, .int .u8 0, .int .u8 0, .int .i64 0, .int .i64 (P : Int), .int .i64 (x2.size : Int)] 56) = V at k0 k1 hbv ⊢
    obtain ⟨W2, hcp, K2, hB2⟩ := copy_tagG V.drew (wr.heap.size + 1) b0 b1 b2 b3 _ _ _ k1
    have k02 : Blk W2 wr.heap.size #[.string (tgS b0 b1 b2 b3), .string x2] 43 := (show Blk V.drew wr.heap.size #[.string (tgS b0 b1 b2 b3), .string x2] 43 from k0).kept hB2 (by omega)
    have HS1 := hide (show V.drew.cell? ⟨wr.heap.size, 0, none⟩ = some (.string (tgS b0 b1 b2 b3)) from k0.cell 0)
    have HS2 := hide (show W2.cell? ⟨wr.heap.size, 0, none⟩ = some (.string (tgS b0 b1 b2 b3)) from k02.cell 0)
    have HCP := hide hcp
    have hB2' : Below wr.heap.size wr W2 := (Below.drew hbv).trans (hB2.mono (by omega))
    have hT2 := HT.out.later hB2'
    have hw2 : w.heap.size ≤ W2.heap.size := Nat.le_trans HB.out.size hB2'.size
    obtain ⟨gn, cap, w3, hr3, hT3, hB3, hkp⟩ := app_rowG (W := W2) ⟨b0, b1, b2, b3, 0, (P : Int), (x2.size : Int)⟩ hT2 hw2 (LT := k) ⟨lyRs_len _ _, by have := H12.out; omega⟩ _ rfl
    have K3 : Blk w3 (wr.heap.size + 1) (rwC ⟨b0, b1, b2, b3, 0, (P : Int), (x2.size : Int)⟩) 56 := by
      have := hkp (wr.heap.size + 1) K2.lt (HOWN.out _ (by omega))
      unfold Blk at *
      rw [this]; exact K2
    have HR3 := hide hr3
    have HT3 := hide hT3
    have HB3 := hide ((HB.out.trans (hB2'.mono HB.out.size)).trans hB3)
    obtain ⟨r0, r1, r2, r3, r4, r5, r6, r7⟩ := RAt.of (r := ⟨b0, b1, b2, b3, 0, (P : Int), (x2.size : Int)⟩) K2
    have l6 := K3.cell 6
    simp at l6
    simp only at r1 r2 r3 r4 r5 r6 r7
    clear hcp k0 k1 hbv k02 hB2 hB2' K2 K3 hr3 hT3 hB3 c0 c1 hT2 hkp hw2 HT HOWN
    refine wp_region_held_drew (S := (fun x => x.cell? ⟨wr.heap.size, 0, none⟩ = some (.string (tgS b0 b1 b2 b3)))) (by kernel_rfl) (HS1.out) (fun hHeld => ?_)
    refine takeW (i := 0) (d := 28) (v := .pointer (some ⟨wr.heap.size + 1, 0, none⟩)) rfl rfl (by kernel_rfl) (by kernel_rfl) (by kernel_rfl) (fun _ _ _ h => h) (by rfl) ?_ (by assumption) ?_
    · intro x hSx
      have q0 := hSx
      go_simp
    simp only [Act.put, List.setIfInBounds_toArray, List.set_cons_zero, List.set_cons_succ]
    refine takeW (i := 1) (d := 29) (v := .slice (some ⟨wr.heap.size + 1, 0, none⟩) 4 4) rfl rfl (by kernel_rfl) (by kernel_rfl) (by kernel_rfl) (fun _ _ _ h => h) (by rfl) ?_ (by assumption) ?_
    · intro x hSx
      have q0 := hSx
      go_simp
    simp only [Act.put, List.setIfInBounds_toArray, List.set_cons_zero, List.set_cons_succ]
    refine takeW (i := 2) (d := 30) (v := .pointer (some ⟨wr.heap.size, 0, none⟩)) rfl rfl (by kernel_rfl) (by kernel_rfl) (by kernel_rfl) (fun _ _ _ h => h) (by rfl) ?_ (by assumption) ?_
    · intro x hSx
      have q0 := hSx
      go_simp
    simp only [Act.put, List.setIfInBounds_toArray, List.set_cons_zero, List.set_cons_succ]
    refine takeW (i := 3) (d := 31) (v := .string (tgS b0 b1 b2 b3)) rfl rfl (by kernel_rfl) (by kernel_rfl) (by kernel_rfl) (fun _ _ _ h => h) (by rfl) ?_ (by assumption) ?_
    · intro x hSx
      have q0 := hSx
      go_simp
    simp only [Act.put, List.setIfInBounds_toArray, List.set_cons_zero, List.set_cons_succ]
    refine wpAnyH_ready (rs := [4]) (by kernel_rfl) (by simp) ?_
    refine AllReadyH.cons rfl (fun K hK => ?_) AllReadyH.nil
    rw [if_pos (by rfl)]
    refine Lib.wp_copy_run _ _ _ _ _ rfl _ _ rfl rfl HCP.out ?_
    refine hK.out _ _ HS2.out (fun hHeld => ?_)
    clear hK K
    refine wpAnyH_done (by kernel_rfl) ?_ _
    refine HA.out _ _ ?_
    clear HA HS1 HS2 HCP
    go_wp2_with (first | (at_builtin; refine Lib.wpList_append_run _ rfl _ _ _ _ rfl _ _ rfl rfl _ _ HR3.out ?_) | (go_at_call 54; refine (CF.out _ _ (by omega) (by omega)).mono ?_; rintro e w' ⟨rfl, hw'⟩; replace hw' := hw'.symm; subst hw'))
    go_roundw
    case rel =>
      refine ⟨k + 1, by go_num, ?_, hide ⟨by omega, ?_, HB3.out, ?_⟩⟩
      · rw [HPN.out]; go_num
      · rw [HLS.out, HLY.out]; exact HT3.out
      · intro i x hi hx
        rcases Nat.lt_or_ge i k with h | h
        · exact HALL.out i x h hx
        · obtain rfl : i = k := by omega
          rw [HX.out] at hx
          injection hx with hx
          rw [← hx]; rfl
    case measure => simp [intOf]; omega
end Go.Proofs.YtgmmhlpdkoiheaaDoor
