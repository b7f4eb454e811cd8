/-
  Joined: O5Flat7, O5Good, O5FlatC.
-/
import Derived.Test.YtlnkddmpcicejaaDoorBG
import Derived.Test.YtlnkddmpcicejaaDoorBA
import Derived.BigQuiet
import Derived.Deep.QuietTactic
import Derived.Deep.Draws
import Derived.Test.YtlnkddmpcicejaaDoorBI
/-
  What the reference's flat (chapter 5) answers at a dictionary.
-/
namespace Go.Proofs.YtlnkddmpcicejaaDoor
open Go.RowKit Go.Deep

/- the key at i is none of those ahead of it, from k on -/
def freshK (ks : List ByteArray) (i k : Nat) : Prop := ∀ j, j < k → (ks.getD j ByteArray.empty).data.toList ≠ (ks.getD i ByteArray.empty).data.toList
def keysOk (ks : List ByteArray) (i : Nat) : Prop := ∀ a, a < i → nameB (ks.getD a ByteArray.empty).data.toList = true ∧ freshK ks a a

theorem keysB_iff : ∀ (ks : List ByteArray) (seen : List (List UInt8)), keysB seen ks = true ↔ ∀ a, a < ks.length → nameB (ks.getD a ByteArray.empty).data.toList = true ∧ ((ks.getD a ByteArray.empty).data.toList ∉ seen) ∧ freshK ks a a
  | [], _ => by simp [keysB]
  | s :: ss, seen => by
    unfold keysB
    rw [Bool.and_eq_true, Bool.and_eq_true, keysB_iff ss]
    simp only [decide_eq_true_eq]
    constructor
    · rintro ⟨⟨h1, h2⟩, h3⟩ a ha
      cases a with
      | zero => exact ⟨h1, h2, fun j hj => absurd hj (Nat.not_lt_zero _)⟩
      | succ a =>
        obtain ⟨g1, g2, g3⟩ := h3 a (by simpa using ha)
        refine ⟨g1, fun hm => g2 (List.mem_append_left _ hm), fun j hj => ?_⟩
        cases j with
        | zero => intro e; exact g2 (List.mem_append_right _ (by simp at e; simp [e]))
        | succ j => exact g3 j (by omega)
    · intro h
      obtain ⟨h1, h2, _⟩ := h 0 (by simp)
      refine ⟨⟨h1, h2⟩, fun a ha => ?_⟩
      obtain ⟨g1, g2, g3⟩ := h (a + 1) (by simpa using ha)
      refine ⟨g1, ?_, fun j hj => g3 (j + 1) (by omega)⟩
      intro hm
      rcases List.mem_append.1 hm with hm | hm
      · exact g2 hm
      · have e := List.mem_singleton.1 hm
        exact g3 0 (by omega) (by simpa using e.symm)
theorem keysB_t {ks : List ByteArray} (h : keysOk ks ks.length) : keysB [] ks = true := (keysB_iff ks []).2 fun a ha => ⟨(h a ha).1, by simp, (h a ha).2⟩
theorem keysB_name {ks : List ByteArray} {i : Nat} (hi : i < ks.length) (h : nameB (ks.getD i ByteArray.empty).data.toList = false) : keysB [] ks = false := by
  rw [Bool.eq_false_iff]
  intro hc
  have := ((keysB_iff ks []).1 hc i hi).1
  rw [h] at this
  cases this
theorem keysB_twice {ks : List ByteArray} {i k : Nat} (hi : i < ks.length) (hk : k < i) (h : (ks.getD k ByteArray.empty).data.toList = (ks.getD i ByteArray.empty).data.toList) : keysB [] ks = false := by
  rw [Bool.eq_false_iff]
  intro hc
  exact ((keysB_iff ks []).1 hc i hi).2.2 k hk h
set_option maxRecDepth 8000 in
set_option maxHeartbeats 4000000 in
theorem flat_7 (fl : Bool) (nm : Int) (tx : ByteArray) (ks : List ByteArray) (ka : Option Addr) (kc : Nat) (ia : Option Addr) (n ic : Nat) (w : World)
    (hks : Strs w ka ks) (hkl : ks.length ≤ 9223372036854775807) (hkz : ∀ s ∈ ks, s.size ≤ 9223372036854775807) :
    Calls Tryd.prog 29 #[ov ⟨7, fl, nm, tx, ks⟩ ka kc ia n ic] w fun e w' => e = .returned (.bool (flatV ⟨7, fl, nm, tx, ks⟩ n)) ∧ Below w.heap.size w w' := by
  obtain ⟨R, hR⟩ : ∃ R, flatV ⟨7, fl, nm, tx, ks⟩ n = R := ⟨_, rfl⟩
  rw [hR]
  have HR := hide hR
  have HKS := hide hks
  have HKZ := hide hkz
  have hkl' : (ks.length : Int) ≤ 9223372036854775807 := by omega
  clear hR hks hkz hkl
  have HB := hide (show ∀ c, Below w.heap.size w (w.alloc c) from fun c => (Below.refl _ _).alloc (Nat.le_refl _) c)
  cases fl with
  | true =>
    obtain rfl : R = false := by rw [← HR.out]; exact flatV_odd (Or.inl ⟨rfl, by decide⟩)
    clear HR HKS HKZ
    go_enter Tryd.func29, Tryd.ntmps29
    simp only [List.append_eq, List.cons_append, List.nil_append]
    go_wp2_with fail
    go_ret
    exact ⟨rfl, HB.out _⟩
  | false =>
  by_cases hnm : nm = 0
  case neg =>
    obtain rfl : R = false := by rw [← HR.out]; exact flatV_odd (Or.inr (Or.inl ⟨hnm, by decide⟩))
    clear HR HKS HKZ
    go_enter Tryd.func29, Tryd.ntmps29
    simp only [List.append_eq, List.cons_append, List.nil_append]
    go_wp2_with fail
    go_ret
    exact ⟨rfl, HB.out _⟩
  subst hnm
  by_cases htx : tx.toList = []
  case neg =>
    obtain rfl : R = false := by rw [← HR.out]; exact flatV_odd (Or.inr (Or.inr (Or.inl ⟨htx, by decide⟩)))
    clear HR HKS HKZ
    go_enter Tryd.func29, Tryd.ntmps29
    simp only [List.append_eq, List.cons_append, List.nil_append]
    go_wp2_with fail
    go_ret
    exact ⟨rfl, HB.out _⟩
  have hV : (decide (ks.length = n) && keysB [] ks) = R := by
    rw [← HR.out, flatV_even (by
      rintro (⟨g, g1⟩ | ⟨g, g1, g2, g3⟩ | ⟨g, g1, g2⟩ | ⟨g, g1⟩ | ⟨g, g1, g2⟩) <;> first | contradiction | omega | (cases g; done))]
    rfl
  clear HR
  by_cases hkn : ks.length = n
  case neg =>
    obtain rfl : R = false := by rw [← hV, decide_eq_false hkn, Bool.false_and]
    have hne : ((ks.length : Int) != (n : Int)) = true := by rw [bne_iff_ne]; omega
    clear hV hkn HKS HKZ
    go_enter Tryd.func29, Tryd.ntmps29
    simp only [List.append_eq, List.cons_append, List.nil_append]
    go_wp2_with fail
    all_goals
      go_ret
      exact ⟨rfl, HB.out _⟩
  subst hkn
  rw [decide_eq_true rfl, Bool.true_and] at hV
  have HV := hide hV
  clear hV
  go_enter Tryd.func29, Tryd.ntmps29
  simp only [List.append_eq, List.cons_append, List.nil_append]
  go_wp2_with fail
  all_goals
    have HS := hide (six_box w ⟨7, false, 0, tx, ks⟩ ka kc ia ks.length ic 39)
    go_loopw [3] (fun vi wr => ∃ i : Nat, vi = .int .i64 i ∧ Hid (i ≤ ks.length ∧ keysOk ks i ∧ Below w.heap.size w wr ∧ Six wr w.heap.size 0 ⟨7, false, 0, tx, ks⟩ ka kc ia ks.length ic ∧ w.heap.size < wr.heap.size)) (fun vi _ => ks.length - (intOf vi).toNat)
    case atStart => exact ⟨0, rfl, hide ⟨Nat.zero_le _, fun a ha => absurd ha (Nat.not_lt_zero _), HB.out _, HS.out, by simp⟩⟩
    case round =>
      clear HS HB
      obtain ⟨i, rfl, HI⟩ := hrel
      obtain ⟨hi, hok, hbel, h6, hsz⟩ := HI.out
      clear HI
      have HOK := hide hok
      have HBL := hide hbel
      have H6 := hide h6
      obtain ⟨s0, s1, s2, s3, s4, s5⟩ := h6
      simp only [Nat.zero_add] at s1 s2 s3 s4 s5
      by_cases hlt : i < ks.length
      case neg =>
        have hlt' : (ks.length : Int) ≤ (i : Int) := by omega
        obtain rfl : R = true := by
          rw [← HV.out]
          have : i = ks.length := by omega
          subst this
          exact keysB_t HOK.out
        clear hok hbel hlt hi
        go_wp2_with fail
        go_ret
        exact ⟨rfl, HBL.out⟩
      case pos =>
        first | (exfalso; omega) | refine ?_
        all_goals
          obtain ⟨b, off, rfl, hb, hc⟩ := HKS.out.get hlt
          have HC := hide hc
          have c1 := (hbel.cell (p := ⟨b, off + i, none⟩) hb).trans (hc i hlt)
          have hlt' : (i : Int) < (ks.length : Int) := by omega
          have hi0 : (0 : Int) ≤ (i : Int) := by omega
          have CN := fun w => rname_any (ks.getD i ByteArray.empty) w (HKZ.out _ (by rw [List.getD_eq_getElem?_getD, List.getElem?_eq_getElem hlt]; exact List.getElem_mem hlt))
          obtain ⟨x, hx⟩ : ∃ x, ks.getD i ByteArray.empty = x := ⟨_, rfl⟩
          rw [hx] at CN c1
          have HX := hide hx
          clear hx hc hok hbel
          cases hn : nameB x.data.toList
          · rw [hn] at CN
            obtain rfl : R = false := by rw [← HV.out]; exact keysB_name hlt (by rw [HX.out]; exact hn)
            have CN := hide CN
            clear hn hlt hi
            go_wp2_with (go_at_call 36; refine (CN.out _).mono ?_; rintro e w1 ⟨rfl, hw1⟩; replace hw1 := hw1.symm; subst hw1)
            go_ret
            exact ⟨rfl, HBL.out⟩
          · rw [hn] at CN
            have CN := hide CN
            have HN := hide hn
            have HLT := hide hlt
            clear hn hlt hi
            go_wp2_with (go_at_call 36; refine (CN.out _).mono ?_; rintro e w1 ⟨rfl, hw1⟩; replace hw1 := hw1.symm; subst hw1)
            clear s0 s1 s2 s3 s4 s5 c1 CN
            go_loopw [4] (fun vk wt => ∃ k : Nat, vk = .int .i64 k ∧ Hid (k ≤ i ∧ freshK ks i k ∧ Below w.heap.size w wt ∧ Six wt w.heap.size 0 ⟨7, false, 0, tx, ks⟩ (some ⟨b, off, none⟩) kc ia ks.length ic ∧ w.heap.size < wt.heap.size)) (fun vk _ => i - (intOf vk).toNat)
            case atStart => exact ⟨0, rfl, hide ⟨Nat.zero_le _, fun a ha => absurd ha (Nat.not_lt_zero _), HBL.out, H6.out, hsz⟩⟩
            case round =>
              clear hsz
              obtain ⟨k, rfl, HK⟩ := hrel
              obtain ⟨hk, hfr, hbt, h6, hsz⟩ := HK.out
              clear HK
              have HFR := hide hfr
              have HBT := hide hbt
              have HST := hide h6
              obtain ⟨s0, s1, s2, s3, s4, s5⟩ := h6
              simp only [Nat.zero_add] at s1 s2 s3 s4 s5
              have hlt := HLT.out
              by_cases hki : k < i
              case neg =>
                have hki' : (i : Int) ≤ (k : Int) := by omega
                clear hlt hfr hbt hki
                go_wp2_with fail
                go_roundw
                case rel =>
                  refine ⟨i + 1, by go_num, hide ⟨HLT.out, fun a ha => ?_, HBT.out, HST.out, hsz⟩⟩
                  by_cases hai : a < i
                  · exact HOK.out a hai
                  · obtain rfl : a = i := by omega
                    exact ⟨by rw [HX.out]; exact HN.out, fun j hj => HFR.out j (by omega)⟩
                case measure => have := HLT.out; simp [intOf]; omega
              case pos =>
                have c1 := (hbt.cell (p := ⟨b, off + i, none⟩) hb).trans (HC.out i hlt)
                have c2 := (hbt.cell (p := ⟨b, off + k, none⟩) hb).trans (HC.out k (by omega))
                have hki' : (k : Int) < (i : Int) := by omega
                have hkl2 : (k : Int) < (ks.length : Int) := by omega
                have hk0 : (0 : Int) ≤ (k : Int) := by omega
                obtain ⟨y, hy⟩ : ∃ y, ks.getD k ByteArray.empty = y := ⟨_, rfl⟩
                rw [HX.out] at c1
                rw [hy] at c2
                have HY := hide hy
                have HKI := hide hki
                clear hy hlt hfr hbt hk hki
                cases hq : (y.toList == x.toList)
                · have HQ := hide hq
                  go_wp2_with fail
                  go_quiet (fail)
                  go_wp2_with fail
                  go_roundw
                  case rel =>
                    refine ⟨k + 1, by go_num, hide ⟨HKI.out, fun j hj => ?_, below_drewN HBT.out _, HST.out, hsz⟩⟩
                    by_cases hjk : j < k
                    · exact HFR.out j hjk
                    · obtain rfl : j = k := by omega
                      rw [HY.out, HX.out]
                      intro e
                      have := HQ.out
                      rw [Lib.toList_data, Lib.toList_data, e] at this
                      simp at this
                  case measure => have := HKI.out; simp [intOf]; omega
                · obtain rfl : R = false := by
                    rw [← HV.out]
                    refine keysB_twice HLT.out HKI.out ?_
                    rw [HY.out, HX.out, ← Lib.toList_data, ← Lib.toList_data]
                    exact eq_of_beq hq
                  go_wp2_with fail
                  go_quiet (fail)
                  go_wp2_with fail
                  go_ret
                  exact ⟨rfl, below_drewN HBT.out _⟩
end Go.Proofs.YtlnkddmpcicejaaDoor
/-
  What the reference's good (chapter 5) answers.
-/
namespace Go.Proofs.YtlnkddmpcicejaaDoor
open Go.RowKit Go.Deep

def FlatC : Prop := ∀ (p : Pay) (T : BT Pay) (ka : Option Addr) (kc : Nat) (ia : Option Addr) (ic : Nat) (w : World), OIn w p T ka kc ia ic →
  Calls Tryd.prog 29 #[ov p ka kc ia (flen T) ic] w fun e w' => e = .returned (.bool (flatV p (flen T))) ∧ Below w.heap.size w w'

set_option maxHeartbeats 4000000 in
theorem good_step (CF : FlatC) (M : Nat)
    (ih : ∀ (p : Pay) (T : BT Pay) (ka : Option Addr) (kc : Nat) (ia : Option Addr) (ic : Nat) (nest n : Int) (w : World), fsize T < M → OIn w p T ka kc ia ic → 0 ≤ nest → nest ≤ 32 → 0 ≤ n → n ≤ 65536 →
      Calls Tryd.prog 24 #[ov p ka kc ia (flen T) ic, .int .i64 nest, .int .i64 n] w fun e w' => e = .returned (.int .i64 (goodV p T nest n)) ∧ Below w.heap.size w w')
    (p : Pay) (T : BT Pay) (ka : Option Addr) (kc : Nat) (ia : Option Addr) (ic : Nat) (nest n : Int) (w : World) (hM : fsize T ≤ M) (hin : OIn w p T ka kc ia ic) (hn0 : 0 ≤ nest) (hn1 : nest ≤ 32) (h0 : 0 ≤ n) (h1 : n ≤ 65536) :
      Calls Tryd.prog 24 #[ov p ka kc ia (flen T) ic, .int .i64 nest, .int .i64 n] w fun e w' => e = .returned (.int .i64 (goodV p T nest n)) ∧ Below w.heap.size w w' := by
  have IH := hide ih
  have HI := hide hin
  have C := fun w' h => CF p T ka kc ia ic w' (OIn.below (w := w) (w' := w') h hin)
  obtain ⟨hR⟩ : Nonempty (∃ R, goodV p T nest n = R) := ⟨⟨_, rfl⟩⟩
  obtain ⟨R, hR⟩ := hR
  rw [hR]
  have hl1 : (flen T : Int) ≤ 9223372036854775807 := by have h := hin.2.2.1; have h' := hin.2.2.2.1; omega
  unfold goodV gV at hR
  have HM := hide hM
  generalize hf : flatV p (flen T) = f at C hR
  have C := hide C
  have HB : Hid (∃ x, x = w ∧ Below w.heap.size w x) := hide ⟨w, rfl, Below.refl _ _⟩
  clear ih hin hM CF hf HB
  have hl0 : (0 : Int) ≤ (flen T : Int) := by omega
  by_cases hbig : n = 65536
  · subst hbig
    rw [if_pos (by left; omega)] at hR
    subst hR
    go_enter Tryd.func24, Tryd.ntmps24
    go_wp2_with fail
    go_ret
    exact ⟨rfl, (Below.refl _ _).alloc (Nat.le_refl _) _⟩
  have hn : (n + 1 : Int) ≤ 65536 := by omega
  cases f
  · rw [if_pos (by right; rfl)] at hR
    subst hR
    go_enter Tryd.func24, Tryd.ntmps24
    go_wp2_with (go_at_call 29; refine (C.out _ ((Below.refl _ _).alloc (Nat.le_refl _) _)).mono ?_; rintro e wz ⟨rfl, hz⟩)
    go_ret
    exact ⟨rfl, below_t5 ((Below.refl _ _).alloc (Nat.le_refl _) _) hz⟩
  rw [if_neg (by rintro (h | h); omega; cases h)] at hR
  have key : ∀ nest' : Int, 0 ≤ nest' → nest' ≤ 32 → (cont p = true ∧ nest' = nest + 1 ∨ cont p = false ∧ nest' = nest) → goodF T nest' (n + 1) = R → 
      Calls Tryd.prog 24 #[ov p ka kc ia (flen T) ic, .int .i64 nest, .int .i64 n] w fun e w' => e = .returned (.int .i64 R) ∧ Below w.heap.size w w' := by
    intro nest' hq0 hq1 hq hG
    obtain ⟨NQ, hNQ⟩ : ∃ NQ, NQ = nest' := ⟨_, rfl⟩
    have HQ : Hid (0 ≤ NQ ∧ NQ ≤ 32 ∧ goodF T NQ (n + 1) = R) := hide ⟨by omega, by omega, by rw [hNQ]; exact hG⟩
    have HO := hide (OIn.at_ HI.out)
    have hc : (p.kind == 6 || p.kind == 7) = true ∧ nest' = nest + 1 ∨ (p.kind == 6 || p.kind == 7) = false ∧ nest' = nest := hq
    clear hR hG hq HI
    go_enter Tryd.func24, Tryd.ntmps24
    have hc : ((p.kind == 6) = true ∧ nest' = nest + 1) ∨ (((p.kind == 6) = false ∧ (p.kind == 7) = true) ∧ nest' = nest + 1) ∨ ((p.kind == 6) = false ∧ (p.kind == 7) = false) ∧ nest' = nest := by
      cases h6 : (p.kind == 6) <;> cases h7 : (p.kind == 7) <;> simp [h6, h7] at hc ⊢ <;> exact hc
    rcases hc with ⟨hc, rfl⟩ | ⟨⟨hc6, hc7⟩, rfl⟩ | ⟨⟨hc6, hc7⟩, rfl⟩
    all_goals
      have HN := hide hNQ
      clear hNQ
      go_wp2_with (go_at_call 29; refine (C.out _ ((Below.refl _ _).alloc (Nat.le_refl _) _)).mono ?_; rintro e wz ⟨rfl, hz⟩; obtain ⟨s0, s1, s2, s3, s4, s5⟩ := (six_box w p ka kc ia (flen T) ic 39).below (by simp) hz; have HZ := hide hz; clear hz)
    all_goals
      obtain ⟨b, off, hia, hrows⟩ := HO.out
      have HS := hide ((six_box w p ka kc ia (flen T) ic 39).below (by simp) HZ.out)
      have HB := hide (below_t5 ((Below.refl _ _).alloc (Nat.le_refl _) _) HZ.out)
      have hsz : w.heap.size < wz.heap.size := by have := HZ.out.size; simp at this; omega
      have HR := hide hrows
      have HIA := hide hia
      clear hrows hia s0 s1 s2 s3 s4 s5 HZ HO
      go_loopw [7, 8] (fun vn vi wr => ∃ (k : Nat) (m : Int) (U : BT Pay), vn = .int .i64 m ∧ vi = .int .i64 k ∧ Hid (flen U + k = flen T ∧ fsize U ≤ fsize T ∧ Rows w U b (off + k * 6) ∧ 0 ≤ m ∧ m ≤ 65536 ∧ goodF U NQ m = R ∧ Below w.heap.size w wr ∧ Six wr w.heap.size 0 p ka kc ia (flen T) ic ∧ w.heap.size < wr.heap.size)) (fun _ vi _ => flen T - (intOf vi).toNat)
      case atStart => exact ⟨0, n + 1, T, rfl, rfl, hide ⟨by omega, Nat.le_refl _, by simpa using HR.out, by omega, by omega, HQ.out.2.2, HB.out, HS.out, hsz⟩⟩
      case round =>
        clear HB HS hsz HR
        obtain ⟨k, m, U, rfl, rfl, HV⟩ := hrel
        obtain ⟨hk, hu, hrow, hm0, hm1, hg, hbel, h6, hsz⟩ := HV.out
        clear HV
        have HB := hide hbel
        have H6 := hide h6
        obtain ⟨s0, s1, s2, s3, s4, s5⟩ := h6
        simp only [Nat.zero_add] at s1 s2 s3 s4 s5
        cases U with
        | nil =>
          have hk' : (flen T : Int) ≤ (k : Int) := by simp [flen] at hk; omega
          have HGG := hide hg
          clear hk hrow hg hbel
          go_wp2_with fail
          go_ret
          have hmR : m = R := HGG.out
          subst hmR
          exact ⟨rfl, HB.out⟩
        | node b0 o0 q TT N =>
          obtain ⟨⟨ka', kc', ia', ic', g6, gin⟩, grest⟩ := rows_node.1 hrow
          obtain rfl | ⟨rfl, hbz⟩ := HIA.out
          · simp [flen] at hk
          have hlt : (k : Int) < (flen T : Int) := by simp [flen] at hk; omega
          have hk0 : (0 : Int) ≤ (k : Int) := by omega
          have hst : fsize TT < M := by have := HM.out; simp [fsize] at hu; omega
          have CI := IH.out q TT ka' kc' ia' ic' NQ m wr hst (gin.below hbel) HQ.out.1 HQ.out.2.1 hm0 hm1
          obtain ⟨c0, c1, c2, c3, c4, c5⟩ := g6.below hbz hbel
          have hle := goodV_le q TT NQ m hm0 hm1
          rw [goodF_node] at hg
          generalize goodV q TT NQ m = r at CI hg hle
          rw [HN.out] at CI
          have CI := hide CI
          have HGG := hide hg
          have HK := hide (show flen N + (k + 1) = flen T ∧ fsize N ≤ fsize T by simp [flen, fsize] at hk hu; omega)
          have HRR := hide grest
          clear hk hu hrow hg hbel g6 gin grest
          by_cases hr : r < 0
          · go_wp2_with (go_at_call 24; refine CI.out.mono ?_; rintro e wy ⟨rfl, hy⟩)
            go_ret
            have hmR : -1 = R := by have := HGG.out; rwa [if_pos (by omega)] at this
            subst hmR
            exact ⟨rfl, below_t5 HB.out hy⟩
          · have hr' : 0 ≤ r := by omega
            go_wp2_with (go_at_call 24; refine CI.out.mono ?_; rintro e wy ⟨rfl, hy⟩)
            go_roundw
            case rel => exact ⟨k + 1, r, N, rfl, by go_num, hide ⟨HK.out.1, HK.out.2, by have := HRR.out; rw [show off + (k + 1) * 6 = off + k * 6 + 6 by omega]; exact this, by omega, by omega, by have := HGG.out; rwa [if_neg (by omega)] at this, below_t5 HB.out hy, H6.out.below hsz hy, Nat.lt_of_lt_of_le hsz hy.size⟩⟩
            case measure => simp [intOf]; omega
  by_cases hc : cont p = true
  · rw [if_pos hc] at hR
    by_cases hd : 32 < nest + 1
    · rw [if_pos hd] at hR
      subst hR
      have hc : (p.kind == 6 || p.kind == 7) = true := hc
      clear HI HM IH
      go_enter Tryd.func24, Tryd.ntmps24
      go_wp2_with (go_at_call 29; refine (C.out _ ((Below.refl _ _).alloc (Nat.le_refl _) _)).mono ?_; rintro e wz ⟨rfl, hz⟩; obtain ⟨s0, s1, s2, s3, s4, s5⟩ := (six_box w p ka kc ia (flen T) ic 39).below (by simp) hz; have HZ := hide hz; clear hz)
      all_goals
        go_ret
        exact ⟨rfl, below_t5 ((Below.refl _ _).alloc (Nat.le_refl _) _) HZ.out⟩
    · rw [if_neg hd] at hR
      exact key (nest + 1) (by omega) (by omega) (Or.inl ⟨hc, rfl⟩) hR
  · rw [if_neg hc] at hR
    exact key nest hn0 hn1 (Or.inr ⟨by simpa using hc, rfl⟩) hR
theorem good_core (CF : FlatC) : ∀ (M : Nat) (p : Pay) (T : BT Pay) (ka : Option Addr) (kc : Nat) (ia : Option Addr) (ic : Nat) (nest n : Int) (w : World), fsize T < M → OIn w p T ka kc ia ic → 0 ≤ nest → nest ≤ 32 → 0 ≤ n → n ≤ 65536 →
      Calls Tryd.prog 24 #[ov p ka kc ia (flen T) ic, .int .i64 nest, .int .i64 n] w fun e w' => e = .returned (.int .i64 (goodV p T nest n)) ∧ Below w.heap.size w w'
  | 0 => fun _ _ _ _ _ _ _ _ _ h => absurd h (Nat.not_lt_zero _)
  | M + 1 => fun p T ka kc ia ic nest n w hM hin a b c d => good_step CF M (good_core CF M) p T ka kc ia ic nest n w (by omega) hin a b c d
end Go.Proofs.YtlnkddmpcicejaaDoor
/-
  What the reference's flat, good, Count and Good (chapter 5) answer, at every object.
-/
namespace Go.Proofs.YtlnkddmpcicejaaDoor
open Go.RowKit Go.Deep

theorem flat_any : FlatC := by
  rintro ⟨kd, fl, nm, tx, ks⟩ T ka kc ia ic w ⟨⟨_, _, hs, hz⟩, ⟨hk, ⟨hkc, _⟩, hkc'⟩, _⟩
  by_cases k0 : kd = 0
  · subst k0; exact flat_0 fl nm tx ks ka kc ia (flen T) ic w hs
  by_cases k1 : kd = 1
  · subst k1; exact flat_1 fl nm tx ks ka kc ia (flen T) ic w hs
  by_cases k2 : kd = 2
  · subst k2; exact flat_2 fl nm tx ks ka kc ia (flen T) ic w hs
  by_cases k3 : kd = 3
  · subst k3; exact flat_3 fl nm tx ks ka kc ia (flen T) ic w hs
  by_cases k4 : kd = 4
  · subst k4; exact flat_4 fl nm tx ks ka kc ia (flen T) ic w hs
  by_cases k5 : kd = 5
  · subst k5; exact flat_5 fl nm tx ks ka kc ia (flen T) ic w hs
  by_cases k6 : kd = 6
  · subst k6; exact flat_6 fl nm tx ks ka kc ia (flen T) ic w hs
  by_cases k7 : kd = 7
  · subst k7; exact flat_7 fl nm tx ks ka kc ia (flen T) ic w hk (Nat.le_trans hkc hkc') hz
  by_cases k8 : kd = 8
  · subst k8; exact flat_8 fl nm tx ks ka kc ia (flen T) ic w hs
  exact flat_none kd fl nm tx ks ka kc ia (flen T) ic w hs (beq_eq_false_iff_ne.2 k0) (beq_eq_false_iff_ne.2 k1) (beq_eq_false_iff_ne.2 k2) (beq_eq_false_iff_ne.2 k3) (beq_eq_false_iff_ne.2 k4) (beq_eq_false_iff_ne.2 k5)
    (beq_eq_false_iff_ne.2 k6) (beq_eq_false_iff_ne.2 k7) (beq_eq_false_iff_ne.2 k8)

/- how many objects there are; -1: it is not good -/
def cntV (p : Pay) (T : BT Pay) : Int := goodV p T 0 0

theorem rcount_any (p : Pay) (T : BT Pay) (ka : Option Addr) (kc : Nat) (ia : Option Addr) (ic : Nat) (w : World) (hin : OIn w p T ka kc ia ic) :
    Calls Tryd.prog 16 #[ov p ka kc ia (flen T) ic] w fun e w' => e = .returned (.int .i64 (cntV p T)) ∧ Below w.heap.size w w' := by
  have C := hide (fun w' h => good_core flat_any (fsize T + 1) p T ka kc ia ic 0 0 w' (Nat.lt_succ_self _) (OIn.below (w := w) (w' := w') h hin) (by omega) (by omega) (by omega) (by omega))
  show Calls _ _ _ _ fun e w' => e = .returned (.int .i64 (goodV p T 0 0)) ∧ Below w.heap.size w w'
  generalize goodV p T 0 0 = r at C ⊢
  go_enter Tryd.func16, Tryd.ntmps16
  go_wp2_with (go_at_call 24; refine (C.out _ ((Below.refl _ _).alloc (Nat.le_refl _) _)).mono ?_; rintro e wz ⟨rfl, hz⟩)
  go_ret
  exact ⟨rfl, below_t5 ((Below.refl _ _).alloc (Nat.le_refl _) _) hz⟩

end Go.Proofs.YtlnkddmpcicejaaDoor
