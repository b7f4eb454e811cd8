/-
  What the reference's Build answers where it answers no error.
-/
import Derived.Test.YtgmmhlpdkoiheaaDoorS8St
import Derived.Test.YtgmmhlpdkoiheaaDoorS8Wh
namespace Go.Proofs.YtgmmhlpdkoiheaaDoor
open Go.RowKit Go.Deep
set_option linter.unusedVariables false

theorem sor_mem (l : List Tab) : ∀ x, x ∈ sorV l → x ∈ l := by
  have k1 : ∀ (x y : Tab) (r : List Tab), y ∈ insR x r → y = x ∨ y ∈ r := by
    intro x y r
    induction r with
    | nil => intro h; simp [insR] at h; exact Or.inl h
    | cons q r ih =>
      intro h
      rw [insR] at h
      split at h
      · rcases List.mem_cons.1 h with h | h
        · exact Or.inr (by rw [h]; exact List.mem_cons_self)
        · rcases ih h with h | h
          · exact Or.inl h
          · exact Or.inr (List.mem_cons_of_mem _ h)
      · rcases List.mem_cons.1 h with h | h
        · exact Or.inl h
        · exact Or.inr h
  have k2 : ∀ (r acc : List Tab) (y : Tab), y ∈ r.foldl (fun a x => insV x a) acc → y ∈ acc ∨ y ∈ r := by
    intro r
    induction r with
    | nil => intro acc y h; exact Or.inl h
    | cons q r ih =>
      intro acc y h
      rcases ih _ y h with h | h
      · unfold insV at h
        rcases k1 q y _ (List.mem_reverse.1 h) with h | h
        · exact Or.inr (by rw [h]; exact List.mem_cons_self)
        · exact Or.inl (List.mem_reverse.1 h)
      · exact Or.inr (List.mem_cons_of_mem _ h)
  intro x hx
  rcases k2 l [] x hx with h | h
  · simp at h
  · exact h
theorem cat8 (a b : ByteArray) (n m : Nat) (ha : a.size = n) (hb : b.size = m) (h : n + m ≤ 10000000) : ∃ P : ByteArray, (∀ w, (Op.stringOp .add a b).run Tryd.prog w = .ok (.string P) w) ∧ P.data.toList = a.data.toList ++ b.data.toList ∧ P.size = n + m :=
  ⟨a ++ b, fun w => run_string_add_sum (P := Tryd.prog) w a b (by omega), by rw [ByteArray.data_append, Array.toList_append], by rw [ByteArray.size_append, ha, hb]⟩
theorem eqS_hd (x : ByteArray) : eqS x ⟨#[104, 101, 97, 100]⟩ = (x.toList == [104, 101, 97, 100]) := by unfold eqS; rw [Lib.toList_data (⟨#[104, 101, 97, 100]⟩ : ByteArray)]
theorem bs_eq8 {P : ByteArray} {l : List UInt8} (h : P.data.toList = l) : P = ⟨l.toArray⟩ := by
  cases P with | mk d => cases d with | mk t => simp at h; rw [h]
set_option maxRecDepth 8000 in
set_option maxHeartbeats 8000000 in
theorem rbuild_ok (a : Option Addr) (l : List Tab) (n c : Nat) (w : World) (hn : l.length = n) (hm : n ≤ 1073741824) (hL : TLst w a l) (hE : bErr l = 0) :
    Calls Tryd.prog 20 #[.slice a n c] w fun e w' => e = .returned (.tuple #[.string ⟨(txtV (sorV l)).toArray⟩, .int .i64 0]) ∧ Below w.heap.size w w' := by
  have h1 : ¬ (n < 1 ∨ 32 < n) := fun h => by unfold bErr at hE; rw [hn, if_pos h] at hE; simp at hE
  have h1' : ¬ (n : Int) < 1 := by omega
  have h2' : ¬ (32 : Int) < (n : Int) := by omega
  have hok : okA (sorV l) := by
    unfold bErr at hE
    rw [hn, if_neg h1] at hE
    split at hE
    · assumption
    · simp at hE
  have hsz : szT (sorV l) n ≤ 1048576 := by
    unfold bErr at hE
    rw [hn, if_neg h1, if_pos hok] at hE
    split at hE
    · simp at hE
    · omega
  have hC := rsorted_any a l n c w hn (by omega) hL
  unfold SoR at hC
  have C := hide hC
  have hml : (sorV l).length = n := by rw [sor_len, hn]
  clear hC
  generalize sorV l = m at *
  have hns : (n : Int) ≤ 32 := by omega
  have HSZ := hide (fun k (hk : k ≤ n) => (show szT m k ≤ 1048576 by have h := szT_down m n hsz (n - k) (by omega); rw [show n - (n - k) = k by omega] at h; exact h))
  have HPL := hide (fun k (hk : k ≤ n) => pl_le m n k hsz hk)
  have HRL := hide (fun k (hk : k ≤ n) => row_len m hok k (by omega))
  have HML := hide hml
  have HOK := hide hok
  have HXX : Hid (∀ i, i < n → ∃ x1 x2, m[i]? = some (x1, x2) ∧ m.getD i tz = (x1, x2) ∧ tagB x1 = true ∧ x2.size ≤ 1048576 ∧ szT m (i + 1) = szT m i + (x2.size + 3) / 4 * 4) := hide (fun i hi => by
    obtain ⟨x, hx⟩ : ∃ x, m[i]? = some x := ⟨_, List.getElem?_eq_getElem (by have := HML.out; omega)⟩
    have hgx : m.getD i tz = x := by rw [List.getD_eq_getElem?_getD, hx]; rfl
    have ho := HOK.out i (by have := HML.out; omega)
    unfold okT at ho
    rw [Bool.and_eq_true, hgx] at ho
    have hz := szT_mono m i (HSZ.out (i + 1) (by omega))
    rw [hgx] at hz
    exact ⟨x.1, x.2, hx, hgx, ho.1, hz.2.1, hz.2.2⟩)
  clear hL hn hm hE h1 hml hok hsz
  go_enter Tryd.func20, Tryd.ntmps20
  go_wp2_with fail
  refine C.out.mono ?_
  rintro e y ⟨v, rfl, hT, hb⟩
  obtain ⟨g, cap, rfl, hg, hcell⟩ := hT.at (by have := HML.out; omega)
  rw [HML.out]
  have HBY := hide hb
  have KS : Hid (∀ u, Below y.heap.size y u → ∀ i x, m[i]? = some x → u.cell? ⟨g, i * 2, none⟩ = some (.string x.1) ∧ u.cell? ⟨g, i * 2 + 1, none⟩ = some (.string x.2)) := hide (fun u hu i x hx => by
    rw [hu.cell (p := ⟨g, i * 2, none⟩) hg, hu.cell (p := ⟨g, i * 2 + 1, none⟩) hg]
    exact hcell i x hx)
  clear hT hb hcell
  go_wp2_with fail
  go_loopw [5, 6] (fun vs vi wr => ∃ i : Nat, vi = .int .i64 i ∧ vs = .int .i64 ((szT m i : Nat) : Int) ∧ Hid (i ≤ n ∧ Below y.heap.size y wr)) (fun _ vi _ => n - (intOf vi).toNat)
  case atStart => exact ⟨0, rfl, by rw [szT, HML.out]; go_num, hide ⟨by omega, Below.refl _ _⟩⟩
  case round =>
    obtain ⟨i, rfl, rfl, HV⟩ := hrel
    obtain ⟨hi, hbw⟩ := HV.out
    have hi0 : (0 : Int) ≤ (i : Int) := by omega
    have hs1 : ((szT m i : Nat) : Int) ≤ 1048576 := by have := HSZ.out i hi; omega
    have hs0 : (0 : Int) ≤ ((szT m i : Nat) : Int) := by omega
    clear HV
    have HBW := hide hbw
    by_cases hlt : i < n
    case pos =>
      have hlt' : (i : Int) < (n : Int) := by omega
      obtain ⟨x1, x2, hx, hgx, htg, hx2, hst⟩ := HXX.out i hlt
      obtain ⟨c0, c1⟩ := KS.out wr hbw i _ hx
      simp only at c0 c1
      have hok := HOK.out i (by have := HML.out; omega)
      unfold okT at hok
      rw [hgx, htg, Bool.true_and] at hok
      have CTg := hide (fun w => rtag_all x1 w (by have := tag_size htg; omega))
      rw [htg] at CTg
      have zx2 : (x2.size : Int) ≤ 1048576 := by omega
      have HZZ := hide (show ((szT m (i + 1) : Nat) : Int) = ((szT m i : Nat) : Int) + ((x2.size : Int) + 3) / 4 * 4 by rw [hst]; omega)
      clear hst hx hgx htg hx2
      by_cases hi1 : 0 < i
      case neg =>
        have hi1' : ¬ (0 : Int) < (i : Int) := by omega
        clear hok hbw
        generalize szT m i = Z at *
        go_wp2_with fail
        go_quiet ((go_at_call 31; exact Calls.quiet_of_same (CTg.out _)))
        go_wp2_with fail
        go_roundw
        case rel => exact ⟨i + 1, by go_num, by rw [HZZ.out], hide ⟨by omega, below_drewN HBW.out _⟩⟩
        case measure => simp [intOf]; omega
      obtain ⟨p, rfl⟩ : ∃ p, i = p + 1 := ⟨i - 1, by omega⟩
      obtain ⟨y1, y2, hy, hgy, j1, j2, j3⟩ := HXX.out p (by omega)
      clear j1 j2 j3
      obtain ⟨d0, d1⟩ := KS.out wr hbw p _ hy
      simp only at d0 d1
      rw [Nat.add_sub_cancel, hgy, show decide (p + 1 = 0) = false by simp, Bool.false_or] at hok
      have hq' : (x1.toList == y1.toList) = false := by
        cases he : eqS x1 y1 with
        | false => exact he
        | true => rw [show eqS (x1, x2).1 (y1, y2).1 = true from he] at hok; simp at hok
      have hi1' : (0 : Int) < (p : Int) + 1 := by omega
      have hp0 : (0 : Int) ≤ (p : Int) := by omega
      have hlt2 : (p : Int) + 1 < (n : Int) := by omega
      clear hok hbw hi1 hy hgy
      generalize szT m (p + 1) = Z at *
      go_wp2_with fail
      go_quiet ((go_at_call 31; exact Calls.quiet_of_same (CTg.out _)))
      go_wp2_with fail
      go_roundw
      case rel => exact ⟨p + 1 + 1, by go_num, by rw [HZZ.out], hide ⟨by omega, below_drewN HBW.out _⟩⟩
      case measure => simp [intOf]; omega
    have hlt' : ¬ (i : Int) < (n : Int) := by omega
    obtain rfl : i = n := by omega
    have hs1' : ¬ (1048576 : Int) < ((szT m i : Nat) : Int) := by omega
    generalize szT m i = Z at *
    clear hbw hlt
    go_wp2_with fail
    go_loopw [7, 8, 9, 10] (fun v7 v8 v9 vi wk => ∃ (k : Nat) (RW BD : ByteArray), vi = .int .i64 k ∧ v7 = .string RW ∧ v8 = .string BD ∧ v9 = .int .i64 (owK m k) ∧ Hid (k ≤ i ∧ RW.data.toList = rowT m k ∧ BD.data.toList = bodT m k ∧ Below y.heap.size y wk)) (fun _ _ _ vi _ => i - (intOf vi).toNat)
    case atStart => exact ⟨0, _, _, rfl, rfl, rfl, rfl, hide ⟨by omega, rfl, rfl, HBW.out⟩⟩
    case round =>
      obtain ⟨k, RW, BD, rfl, rfl, rfl, rfl, HV⟩ := hrel
      clear HBW
      obtain ⟨hk, hRW, hBD, hbw⟩ := HV.out
      have hk0 : (0 : Int) ≤ (k : Int) := by omega
      clear HV
      have HBW := hide hbw
      have hpl : 12 + 16 * i + BD.size = plT m k := by unfold plT; rw [HML.out, Lib.size_eq, hBD]
      have hpb := HPL.out k hk
      have hrs : RW.size = 16 * k := by rw [Lib.size_eq, hRW]; exact HRL.out k hk
      have HOB := hide (ow_bd m k)
      by_cases hlk : k < i
      case neg =>
        have hlk' : ¬ (k : Int) < (i : Int) := by omega
        obtain rfl : k = i := by omega
        have CTw := hide (fun w => rtwo_any (k : Int) w (by omega) (by omega))
        have CSr := hide (fun w => rsearch_any k w (by omega) (by omega))
        obtain ⟨T2, hT2⟩ : ∃ T, (⟨(nbT (k : Int) 2).toArray⟩ : ByteArray) = T := ⟨_, rfl⟩
        obtain ⟨SR, hSR⟩ : ∃ T, (⟨(srT k).toArray⟩ : ByteArray) = T := ⟨_, rfl⟩
        have n2 : T2.size = 2 := by rw [← hT2, Lib.size_eq]; exact nbT_len _ _
        have n6 : SR.size = 6 := by rw [← hSR, Lib.size_eq]; show (srT k).length = 6; unfold srT; rw [List.length_append, List.length_append, nbT_len, nbT_len, nbT_len]
        rw [hT2] at CTw
        rw [hSR] at CSr
        obtain ⟨A1, q1, e1, s1⟩ := cat8 ⟨#[0, 1, 0, 0]⟩ T2 4 2 rfl n2 (by omega)
        obtain ⟨A2, q2, e2, s2⟩ := cat8 A1 SR 6 6 s1 n6 (by omega)
        obtain ⟨A3, q3, e3, s3⟩ := cat8 A2 RW 12 (16 * k) s2 hrs (by omega)
        obtain ⟨A4, q4, e4, s4⟩ := cat8 A3 BD (12 + 16 * k) BD.size s3 rfl (by omega)
        have hA4 : A4.data.toList = openT m.length ++ (rowT m m.length ++ bodT m m.length) := by
          rw [e4, e3, e2, e1, hRW, hBD, ← hT2, ← hSR, HML.out, openT_eq]
          simp
        have hAs : A4.size = plT m k := by rw [s4, hpl]
        rcases HOB.out with ho | ⟨j, hj, ho, h12⟩
        · have HT := hide (show A4 = ⟨(txtV m).toArray⟩ from bs_eq8 (by unfold txtV; simp only; rw [HML.out] at *; rw [ho, if_neg (by omega)]; exact hA4))
          rw [ho]
          clear e1 e2 e3 e4 s1 s2 s3 s4 hT2 hSR n2 n6 hA4 hAs HOB ho hRW hBD hrs hbw hpl hpb hlk
          go_wp2_with fail
          refine (CTw.out _).mono ?_
          rintro e z1 ⟨rfl, hz1⟩
          have HV1 := hide (HBW.out.trans (hz1.mono HBW.out.size))
          clear hz1
          go_wp2_with fail
          refine (CSr.out _).mono ?_
          rintro e z2 ⟨rfl, hz2⟩
          have HV2 := hide (HV1.out.trans (hz2.mono HV1.out.size))
          clear hz2
          go_wp2_with fail
          go_ret2
          exact ⟨by rw [← HT.out]; rfl, HBY.out.trans (HV2.out.mono HBY.out.size)⟩
        obtain ⟨Q, hQ⟩ : ∃ Q, plT m j + 8 = Q := ⟨_, rfl⟩
        have hoq : owK m k = (Q : Int) := by rw [ho, ← hQ]; omega
        have hQ4 : Q + 4 ≤ A4.size := by
          have h1 := pl_next m j
          have h2 := pl_mono m (j + 1) (k - (j + 1))
          rw [show j + 1 + (k - (j + 1)) = k by omega] at h2
          rw [hAs]; omega
        have hAb : A4.size ≤ 1048576 := by rw [hAs]; exact hpb
        obtain ⟨SV, hSV⟩ : ∃ SV : Nat, sumV A4.data.toList = SV := ⟨_, rfl⟩
        have CSm := hide (fun w => rsum_any A4 w (by omega))
        rw [hSV] at CSm
        have hSVb : (SV : Int) ≤ 4294967295 := by rw [← hSV]; unfold sumV; omega
        have hSV0 : (0 : Int) ≤ (SV : Int) := by omega
        have hand := and_32n (2981146554 - (SV : Int))
        obtain ⟨X, hX⟩ : ∃ X : Int, (2981146554 - (SV : Int)) % 4294967296 = X := ⟨_, rfl⟩
        rw [hX] at hand
        have hX0 : 0 ≤ X := by rw [← hX]; omega
        have hX1 : X ≤ 4294967295 := by rw [← hX]; omega
        have CF := hide (fun w => rfour_any X w (by omega) hX1)
        obtain ⟨FX, hFX⟩ : ∃ T, (⟨(f4 X).toArray⟩ : ByteArray) = T := ⟨_, rfl⟩
        have n4' : FX.size = 4 := by rw [← hFX, Lib.size_eq]; exact f4_len _
        rw [hFX] at CF
        have hH1 : (A4.extract 0 Q).size = Q := by rw [ByteArray.size_extract]; omega
        have hH2 : (A4.extract (Q + 4) A4.size).size = A4.size - (Q + 4) := by rw [ByteArray.size_extract]; omega
        obtain ⟨G1, q5, e5, s5⟩ := cat8 (A4.extract 0 Q) FX Q 4 hH1 n4' (by omega)
        obtain ⟨G2, q6, e6, s6⟩ := cat8 G1 (A4.extract (Q + 4) A4.size) (Q + 4) (A4.size - (Q + 4)) s5 hH2 (by omega)
        have hx1 : (A4.extract 0 Q).data.toList = A4.data.toList.take Q := by rw [ByteArray.data_extract, Array.toList_extract]; simp [List.extract]
        have hx2 : (A4.extract (Q + 4) A4.size).data.toList = A4.data.toList.drop (Q + 4) := by
          rw [ByteArray.data_extract, Array.toList_extract]
          simp only [List.extract]
          rw [List.take_of_length_le (by rw [List.length_drop, ← Lib.size_eq]; omega)]
        have HT := hide (show G2 = ⟨(txtV m).toArray⟩ from bs_eq8 (by
          unfold txtV
          simp only
          rw [← hA4, HML.out, hoq, if_pos (by omega), Int.toNat_natCast, e6, e5, hx1, hx2, ← hFX, hSV, hX, List.append_assoc]))
        rw [hoq]
        obtain ⟨P, hP⟩ : ∃ P, Q + 4 = P := ⟨_, rfl⟩
        rw [hP] at q6 hQ4
        have hPi : (Q : Int) + 4 = (P : Int) := by omega
        have hP0 : (0 : Int) ≤ (P : Int) := by omega
        have hP1 : (P : Int) ≤ (A4.size : Int) := by omega
        have hwP : IntKind.i64.wrap (P : Int) = (P : Int) := by rw [IntKind.wrap_i64]; omega
        have hQ0 : (0 : Int) ≤ (Q : Int) := by omega
        have hQ1 : (Q : Int) ≤ (A4.size : Int) := by omega
        have hQ3 : Q ≤ A4.size := by omega
        have hAi : (A4.size : Int) ≤ 1048576 := by omega
        have hsb : IntKind.i64.wrap (2981146554 - (SV : Int)) = 2981146554 - (SV : Int) := by rw [IntKind.wrap_i64]; omega
        clear e1 e2 e3 e4 s1 s2 s3 s4 hT2 hSR n2 n6 hA4 hAs HOB ho hRW hBD hrs hbw hpl hpb hlk e5 e6 s5 s6 hx1 hx2 hH1 hH2 hFX n4' hX hSV hoq hQ h12 hj hAb hP
        go_wp2_with fail
        refine (CTw.out _).mono ?_
        rintro e z1 ⟨rfl, hz1⟩
        have HV1 := hide (HBW.out.trans (hz1.mono HBW.out.size))
        clear hz1
        go_wp2_with fail
        refine (CSr.out _).mono ?_
        rintro e z2 ⟨rfl, hz2⟩
        have HV2 := hide (HV1.out.trans (hz2.mono HV1.out.size))
        clear hz2
        go_wp2_with fail
        have HVV := hide (Below.refl z2.heap.size z2)
        go_region_held3 (fun _ => True) (first | trivial | go_keep) ((first | (go_at_call 11; refine (CSm.out _).mono ?_; rintro e wy ⟨rfl, hy⟩; subst wy) | (go_at_call 40; refine (CF.out _).mono ?_; rintro e wy ⟨rfl, hy⟩; replace HVV := hide (below_d HVV.out hy rfl rfl rfl rfl); clear hy)))
        all_goals
          go_wp2_with fail
          go_ret2
          exact ⟨by rw [← HT.out]; rfl, HBY.out.trans ((HV2.out.trans ((below_d HVV.out (Below.refl _ _) rfl rfl rfl rfl).mono HV2.out.size)).mono HBY.out.size)⟩
      have hlk' : (k : Int) < (i : Int) := by omega
      obtain ⟨x1, x2, hx, hgx, htg, hx2, _⟩ := HXX.out k hlk
      obtain ⟨c0, c1⟩ := KS.out wr hbw k _ hx
      simp only at c0 c1
      have ht4 := tag_size htg
      obtain ⟨D, hD⟩ : ∃ D, ownS x1 x2 = D := ⟨_, rfl⟩
      have hDk : dOf m k = D := by unfold dOf; rw [hgx]; exact hD
      have hDs : D.size = x2.size := by rw [← hD]; exact ownS_size _ _
      have CO := hide (fun w => rowned_all x1 x2 w ht4 (by omega))
      rw [hD] at CO
      obtain ⟨SV, hSV⟩ : ∃ SV : Nat, sumV D.data.toList = SV := ⟨_, rfl⟩
      have CSm := hide (fun w => rsum_any D w (by omega))
      rw [hSV] at CSm
      have hSVb : (SV : Int) ≤ 4294967295 := by rw [← hSV]; unfold sumV; omega
      have hSV0 : (0 : Int) ≤ (SV : Int) := by omega
      obtain ⟨FV, hFV⟩ : ∃ FV : Int → ByteArray, ∀ x, FV x = ⟨(f4 x).toArray⟩ := ⟨_, fun _ => rfl⟩
      have hfs : ∀ x, (FV x).size = 4 := fun x => by rw [hFV x, Lib.size_eq]; exact f4_len x
      have hfl : ∀ x, (FV x).data.toList = f4 x := fun x => by rw [hFV x]
      have CF : Hid (∀ (x : Int) (w : World), 0 ≤ x → x ≤ 4294967295 → Calls Tryd.prog 40 #[.int .i64 x] w fun e w' => e = .returned (.string (FV x)) ∧ Below w.heap.size w w') := hide (fun x w h0 h1 => by rw [hFV x]; exact rfour_any x w (by omega) h1)
      have CPd := hide (fun w => rpad_any D w (by omega))
      obtain ⟨G1, q1, e1, s1⟩ := cat8 x1 (FV (SV : Int)) 4 4 ht4 (hfs _) (by omega)
      obtain ⟨G2, q2, e2, s2⟩ := cat8 G1 (FV (12 + 16 * (i : Int) + (BD.size : Int))) 8 4 s1 (hfs _) (by omega)
      obtain ⟨G3, q3, e3, s3⟩ := cat8 G2 (FV (D.size : Int)) 12 4 s2 (hfs _) (by omega)
      obtain ⟨RW2, q4, e4, s4⟩ := cat8 RW G3 (16 * k) 16 hrs s3 (by omega)
      have HR2 := hide (show RW2.data.toList = rowT m (k + 1) by
        rw [e4, e3, e2, e1, hRW, rowT, hDk, hSV, hgx, hfl, hfl, hfl, ← hpl]
        simp)
      have HPD := hide (fun (P : ByteArray) (hP : P.data.toList = padT D.data.toList) => (show ∃ BD2 : ByteArray, (∀ w, (Op.stringOp .add BD P).run Tryd.prog w = .ok (.string BD2) w) ∧ BD2.data.toList = bodT m (k + 1) ∧ BD2.size ≤ 10000000 by
        have hps : P.size ≤ 1048580 := by rw [Lib.size_eq, hP, padT_sz, ← Lib.size_eq]; omega
        obtain ⟨B2, r1, r2, r3⟩ := cat8 BD P BD.size P.size rfl rfl (by omega)
        exact ⟨B2, r1, by rw [r2, hBD, hP, bodT, hDk], by omega⟩))
      have hbds : (BD.size : Int) ≤ 1048576 := by omega
      have hDz : (D.size : Int) ≤ 1048576 := by omega
      have K0 := hide (fun u (hu : Below wr.heap.size wr u) => (KS.out u (hbw.trans (hu.mono hbw.size)) k (x1, x2) hx).1)
      have how : owK m (k + 1) = if (eqS x1 ⟨#[104, 101, 97, 100]⟩ && decide (12 ≤ D.size)) = true then (plT m k : Int) + 8 else owK m k := by rw [owK, hgx, hDk]
      have hob : -1 ≤ owK m k ∧ owK m k ≤ 2000000 := by
        rcases HOB.out with h | ⟨j, h1, h2, _⟩
        · omega
        · have := HPL.out j (by omega); omega
      clear e1 e2 e3 e4 s1 s2 s3 s4 hx hgx htg hx2 hD hDk hDs hSV hFV hfs hfl hRW hBD hrs hbw ht4 HOB
      generalize owK m k = OW at *
      cases hq : eqS x1 ⟨#[104, 101, 97, 100]⟩
      · have hq' : (x1.toList == [104, 101, 97, 100]) = false := by rw [← eqS_hd]; exact hq
        have HOW := hide (show owK m (k + 1) = OW by rw [how, hq]; rfl)
        clear how hq hpl hpb
        go_wp2_with fail
        go_quiet ((go_at_call 32; exact Calls.quiet_of (CO.out _)))
        go_wp2_with fail
        have HVV := hide (Below.refl wr.heap.size wr)
        go_region_held3 (fun u => u.cell? ⟨g, k * 2, none⟩ = some (.string x1)) (exact K0.out _ (below_d HVV.out (Below.refl _ _) rfl rfl rfl rfl)) ((first | (go_at_call 11; refine (CSm.out _).mono ?_; rintro e wy ⟨rfl, hy⟩; subst wy) | (go_at_call 40; refine (CF.out _ _ (by omega) (by omega)).mono ?_; rintro e wy ⟨rfl, hy⟩; replace HVV := hide (below_d HVV.out hy rfl rfl rfl rfl); clear hy)))
        all_goals
          go_wp2_with fail
          refine (CPd.out _).mono ?_
          rintro e wy ⟨P, rfl, hP, hy⟩
          subst wy
          obtain ⟨BD2, q5, b1, b2⟩ := HPD.out P hP
          have HB2 := hide b1
          clear b1 b2 hP
          go_wp2_with fail
          go_roundw
          case rel => exact ⟨k + 1, RW2, BD2, by go_num, rfl, rfl, by rw [HOW.out], hide ⟨by omega, HR2.out, HB2.out, HBW.out.trans ((below_d HVV.out (Below.refl _ _) rfl rfl rfl rfl).mono HBW.out.size)⟩⟩
          case measure => simp [intOf]; omega
      have hq' : (x1.toList == [104, 101, 97, 100]) = true := by rw [← eqS_hd]; exact hq
      by_cases h12 : 12 ≤ D.size
      · have h12' : (12 : Int) ≤ (D.size : Int) := by omega
        have HOW := hide (show owK m (k + 1) = 12 + 16 * (i : Int) + (BD.size : Int) + 8 by rw [how, hq, decide_eq_true h12, Bool.true_and, if_pos rfl, ← hpl]; omega)
        clear how hq hpl hpb h12
        go_wp2_with fail
        go_quiet ((go_at_call 32; exact Calls.quiet_of (CO.out _)))
        go_wp2_with fail
        have HVV := hide (Below.refl wr.heap.size wr)
        go_region_held3 (fun u => u.cell? ⟨g, k * 2, none⟩ = some (.string x1)) (exact K0.out _ (below_d HVV.out (Below.refl _ _) rfl rfl rfl rfl)) ((first | (go_at_call 11; refine (CSm.out _).mono ?_; rintro e wy ⟨rfl, hy⟩; subst wy) | (go_at_call 40; refine (CF.out _ _ (by omega) (by omega)).mono ?_; rintro e wy ⟨rfl, hy⟩; replace HVV := hide (below_d HVV.out hy rfl rfl rfl rfl); clear hy)))
        all_goals
          go_wp2_with fail
          refine (CPd.out _).mono ?_
          rintro e wy ⟨P, rfl, hP, hy⟩
          subst wy
          obtain ⟨BD2, q5, b1, b2⟩ := HPD.out P hP
          have HB2 := hide b1
          clear b1 b2 hP
          go_wp2_with fail
          go_roundw
          case rel => exact ⟨k + 1, RW2, BD2, by go_num, rfl, rfl, by rw [HOW.out], hide ⟨by omega, HR2.out, HB2.out, HBW.out.trans ((below_d HVV.out (Below.refl _ _) rfl rfl rfl rfl).mono HBW.out.size)⟩⟩
          case measure => simp [intOf]; omega
      · have h12' : ¬ (12 : Int) ≤ (D.size : Int) := by omega
        have HOW := hide (show owK m (k + 1) = OW by rw [how, hq, decide_eq_false h12]; rfl)
        clear how hq hpl hpb h12
        go_wp2_with fail
        go_quiet ((go_at_call 32; exact Calls.quiet_of (CO.out _)))
        go_wp2_with fail
        have HVV := hide (Below.refl wr.heap.size wr)
        go_region_held3 (fun u => u.cell? ⟨g, k * 2, none⟩ = some (.string x1)) (exact K0.out _ (below_d HVV.out (Below.refl _ _) rfl rfl rfl rfl)) ((first | (go_at_call 11; refine (CSm.out _).mono ?_; rintro e wy ⟨rfl, hy⟩; subst wy) | (go_at_call 40; refine (CF.out _ _ (by omega) (by omega)).mono ?_; rintro e wy ⟨rfl, hy⟩; replace HVV := hide (below_d HVV.out hy rfl rfl rfl rfl); clear hy)))
        all_goals
          go_wp2_with fail
          refine (CPd.out _).mono ?_
          rintro e wy ⟨P, rfl, hP, hy⟩
          subst wy
          obtain ⟨BD2, q5, b1, b2⟩ := HPD.out P hP
          have HB2 := hide b1
          clear b1 b2 hP
          go_wp2_with fail
          go_roundw
          case rel => exact ⟨k + 1, RW2, BD2, by go_num, rfl, rfl, by rw [HOW.out], hide ⟨by omega, HR2.out, HB2.out, HBW.out.trans ((below_d HVV.out (Below.refl _ _) rfl rfl rfl rfl).mono HBW.out.size)⟩⟩
          case measure => simp [intOf]; omega
end Go.Proofs.YtgmmhlpdkoiheaaDoor
