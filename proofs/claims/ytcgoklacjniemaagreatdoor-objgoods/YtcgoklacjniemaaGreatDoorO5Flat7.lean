/-
  What the reference's flat (chapter 5) answers at a dictionary.
-/
import Derived.Test.YtcgoklacjniemaaGreatDoorO5FlatB
import Derived.Test.YtcgoklacjniemaaGreatDoorO5Sub
import Derived.BigQuiet
import Derived.Deep.QuietTactic
import Derived.Deep.Draws
namespace Go.Proofs.YtcgoklacjniemaaGreatDoor
open Go.RowKit Go.Deep

/- the key at i is none of those ahead of it, from k on -/
def freshK (ks : List ByteArray) (i k : Nat) : Prop := ∀ j, j < k → (ks.getD j ByteArray.empty).data.toList ≠ (ks.getD i ByteArray.empty).data.toList
def keysOk (ks : List ByteArray) (i : Nat) : Prop := ∀ a, a < i → nameB (ks.getD a ByteArray.empty).data.toList = true ∧ freshK ks a a

theorem keysB_iff : ∀ (ks : List ByteArray) (seen : List (List UInt8)), keysB seen ks = true ↔ ∀ a, a < ks.length → nameB (ks.getD a ByteArray.empty).data.toList = true ∧ ((ks.getD a ByteArray.empty).data.toList ∉ seen) ∧ freshK ks a a
  | [], _ => by simp [keysB]
  | s :: ss, seen => by
    unfold keysB
    rw [Bool.and_eq_true, Bool.and_eq_true, keysB_iff ss]
    simp only [decide_eq_true_eq]
    constructor
    · rintro ⟨⟨h1, h2⟩, h3⟩ a ha
      cases a with
      | zero => exact ⟨h1, h2, fun j hj => absurd hj (Nat.not_lt_zero _)⟩
      | succ a =>
        obtain ⟨g1, g2, g3⟩ := h3 a (by simpa using ha)
        refine ⟨g1, fun hm => g2 (List.mem_append_left _ hm), fun j hj => ?_⟩
        cases j with
        | zero => intro e; exact g2 (List.mem_append_right _ (by simp at e; simp [e]))
        | succ j => exact g3 j (by omega)
    · intro h
      obtain ⟨h1, h2, _⟩ := h 0 (by simp)
      refine ⟨⟨h1, h2⟩, fun a ha => ?_⟩
      obtain ⟨g1, g2, g3⟩ := h (a + 1) (by simpa using ha)
      refine ⟨g1, ?_, fun j hj => g3 (j + 1) (by omega)⟩
      intro hm
      rcases List.mem_append.1 hm with hm | hm
      · exact g2 hm
      · have e := List.mem_singleton.1 hm
        exact g3 0 (by omega) (by simpa using e.symm)
theorem keysB_t {ks : List ByteArray} (h : keysOk ks ks.length) : keysB [] ks = true := (keysB_iff ks []).2 fun a ha => ⟨(h a ha).1, by simp, (h a ha).2⟩
theorem keysB_name {ks : List ByteArray} {i : Nat} (hi : i < ks.length) (h : nameB (ks.getD i ByteArray.empty).data.toList = false) : keysB [] ks = false := by
  rw [Bool.eq_false_iff]
  intro hc
  have := ((keysB_iff ks []).1 hc i hi).1
  rw [h] at this
  cases this
theorem keysB_twice {ks : List ByteArray} {i k : Nat} (hi : i < ks.length) (hk : k < i) (h : (ks.getD k ByteArray.empty).data.toList = (ks.getD i ByteArray.empty).data.toList) : keysB [] ks = false := by
  rw [Bool.eq_false_iff]
  intro hc
  exact ((keysB_iff ks []).1 hc i hi).2.2 k hk h
set_option maxRecDepth 8000 in
set_option maxHeartbeats 4000000 in
theorem flat_7 (fl : Bool) (nm : Int) (tx : ByteArray) (ks : List ByteArray) (ka : Option Addr) (kc : Nat) (ia : Option Addr) (n ic : Nat) (w : World)
    (hks : Strs w ka ks) (hkl : ks.length ≤ 9223372036854775807) (hkz : ∀ s ∈ ks, s.size ≤ 9223372036854775807) :
    Calls Tryz.prog 65 #[ov ⟨7, fl, nm, tx, ks⟩ ka kc ia n ic] w fun e w' => e = .returned (.bool (flatV ⟨7, fl, nm, tx, ks⟩ n)) ∧ Below w.heap.size w w' := by
  obtain ⟨R, hR⟩ : ∃ R, flatV ⟨7, fl, nm, tx, ks⟩ n = R := ⟨_, rfl⟩
  rw [hR]
  have HR := hide hR
  have HKS := hide hks
  have HKZ := hide hkz
  have hkl' : (ks.length : Int) ≤ 9223372036854775807 := by omega
  clear hR hks hkz hkl
  have HB := hide (show ∀ c, Below w.heap.size w (w.alloc c) from fun c => (Below.refl _ _).alloc (Nat.le_refl _) c)
  cases fl with
  | true =>
    obtain rfl : R = false := by rw [← HR.out]; exact flatV_odd (Or.inl ⟨rfl, by decide⟩)
    clear HR HKS HKZ
    go_enter Tryz.func65, Tryz.ntmps65
    simp only [List.append_eq, List.cons_append, List.nil_append]
    go_wp2_with fail
    go_ret
    exact ⟨rfl, HB.out _⟩
  | false =>
  by_cases hnm : nm = 0
  case neg =>
    obtain rfl : R = false := by rw [← HR.out]; exact flatV_odd (Or.inr (Or.inl ⟨hnm, by decide⟩))
    clear HR HKS HKZ
    go_enter Tryz.func65, Tryz.ntmps65
    simp only [List.append_eq, List.cons_append, List.nil_append]
    go_wp2_with fail
    go_ret
    exact ⟨rfl, HB.out _⟩
  subst hnm
  by_cases htx : tx.toList = []
  case neg =>
    obtain rfl : R = false := by rw [← HR.out]; exact flatV_odd (Or.inr (Or.inr (Or.inl ⟨htx, by decide⟩)))
    clear HR HKS HKZ
    go_enter Tryz.func65, Tryz.ntmps65
    simp only [List.append_eq, List.cons_append, List.nil_append]
    go_wp2_with fail
    go_ret
    exact ⟨rfl, HB.out _⟩
  have hV : (decide (ks.length = n) && keysB [] ks) = R := by
    rw [← HR.out, flatV_even (by
      rintro (⟨g, g1⟩ | ⟨g, g1, g2, g3⟩ | ⟨g, g1, g2⟩ | ⟨g, g1⟩ | ⟨g, g1, g2⟩) <;> first | contradiction | omega | (cases g; done))]
    rfl
  clear HR
  by_cases hkn : ks.length = n
  case neg =>
    obtain rfl : R = false := by rw [← hV, decide_eq_false hkn, Bool.false_and]
    have hne : ((ks.length : Int) != (n : Int)) = true := by rw [bne_iff_ne]; omega
    clear hV hkn HKS HKZ
    go_enter Tryz.func65, Tryz.ntmps65
    simp only [List.append_eq, List.cons_append, List.nil_append]
    go_wp2_with fail
    all_goals
      go_ret
      exact ⟨rfl, HB.out _⟩
  subst hkn
  rw [decide_eq_true rfl, Bool.true_and] at hV
  have HV := hide hV
  clear hV
  go_enter Tryz.func65, Tryz.ntmps65
  simp only [List.append_eq, List.cons_append, List.nil_append]
  go_wp2_with fail
  all_goals
    have HS := hide (six_box w ⟨7, false, 0, tx, ks⟩ ka kc ia ks.length ic 25)
    go_loopw [3] (fun vi wr => ∃ i : Nat, vi = .int .i64 i ∧ Hid (i ≤ ks.length ∧ keysOk ks i ∧ Below w.heap.size w wr ∧ Six wr w.heap.size 0 ⟨7, false, 0, tx, ks⟩ ka kc ia ks.length ic ∧ w.heap.size < wr.heap.size)) (fun vi _ => ks.length - (intOf vi).toNat)
    case atStart => exact ⟨0, rfl, hide ⟨Nat.zero_le _, fun a ha => absurd ha (Nat.not_lt_zero _), HB.out _, HS.out, by simp⟩⟩
    case round =>
      clear HS HB
      obtain ⟨i, rfl, HI⟩ := hrel
      obtain ⟨hi, hok, hbel, h6, hsz⟩ := HI.out
      clear HI
      have HOK := hide hok
      have HBL := hide hbel
      have H6 := hide h6
      obtain ⟨s0, s1, s2, s3, s4, s5⟩ := h6
      simp only [Nat.zero_add] at s1 s2 s3 s4 s5
      by_cases hlt : i < ks.length
      case neg =>
        have hlt' : (ks.length : Int) ≤ (i : Int) := by omega
        obtain rfl : R = true := by
          rw [← HV.out]
          have : i = ks.length := by omega
          subst this
          exact keysB_t HOK.out
        clear hok hbel hlt hi
        go_wp2_with fail
        go_ret
        exact ⟨rfl, HBL.out⟩
      case pos =>
        first | (exfalso; omega) | refine ?_
        all_goals
          obtain ⟨b, off, rfl, hb, hc⟩ := HKS.out.get hlt
          have HC := hide hc
          have c1 := (hbel.cell (p := ⟨b, off + i, none⟩) hb).trans (hc i hlt)
          have hlt' : (i : Int) < (ks.length : Int) := by omega
          have hi0 : (0 : Int) ≤ (i : Int) := by omega
          have CN := fun w => rname_any (ks.getD i ByteArray.empty) w (HKZ.out _ (by rw [List.getD_eq_getElem?_getD, List.getElem?_eq_getElem hlt]; exact List.getElem_mem hlt))
          obtain ⟨x, hx⟩ : ∃ x, ks.getD i ByteArray.empty = x := ⟨_, rfl⟩
          rw [hx] at CN c1
          have HX := hide hx
          clear hx hc hok hbel
          cases hn : nameB x.data.toList
          · rw [hn] at CN
            obtain rfl : R = false := by rw [← HV.out]; exact keysB_name hlt (by rw [HX.out]; exact hn)
            have CN := hide CN
            clear hn hlt hi
            go_wp2_with (go_at_call 89; refine (CN.out _).mono ?_; rintro e w1 ⟨rfl, hw1⟩; replace hw1 := hw1.symm; subst hw1)
            go_ret
            exact ⟨rfl, HBL.out⟩
          · rw [hn] at CN
            have CN := hide CN
            have HN := hide hn
            have HLT := hide hlt
            clear hn hlt hi
            go_wp2_with (go_at_call 89; refine (CN.out _).mono ?_; rintro e w1 ⟨rfl, hw1⟩; replace hw1 := hw1.symm; subst hw1)
            clear s0 s1 s2 s3 s4 s5 c1 CN
            go_loopw [4] (fun vk wt => ∃ k : Nat, vk = .int .i64 k ∧ Hid (k ≤ i ∧ freshK ks i k ∧ Below w.heap.size w wt ∧ Six wt w.heap.size 0 ⟨7, false, 0, tx, ks⟩ (some ⟨b, off, none⟩) kc ia ks.length ic ∧ w.heap.size < wt.heap.size)) (fun vk _ => i - (intOf vk).toNat)
            case atStart => exact ⟨0, rfl, hide ⟨Nat.zero_le _, fun a ha => absurd ha (Nat.not_lt_zero _), HBL.out, H6.out, hsz⟩⟩
            case round =>
              clear hsz
              obtain ⟨k, rfl, HK⟩ := hrel
              obtain ⟨hk, hfr, hbt, h6, hsz⟩ := HK.out
              clear HK
              have HFR := hide hfr
              have HBT := hide hbt
              have HST := hide h6
              obtain ⟨s0, s1, s2, s3, s4, s5⟩ := h6
              simp only [Nat.zero_add] at s1 s2 s3 s4 s5
              have hlt := HLT.out
              by_cases hki : k < i
              case neg =>
                have hki' : (i : Int) ≤ (k : Int) := by omega
                clear hlt hfr hbt hki
                go_wp2_with fail
                go_roundw
                case rel =>
                  refine ⟨i + 1, by go_num, hide ⟨HLT.out, fun a ha => ?_, HBT.out, HST.out, hsz⟩⟩
                  by_cases hai : a < i
                  · exact HOK.out a hai
                  · obtain rfl : a = i := by omega
                    exact ⟨by rw [HX.out]; exact HN.out, fun j hj => HFR.out j (by omega)⟩
                case measure => have := HLT.out; simp [intOf]; omega
              case pos =>
                have c1 := (hbt.cell (p := ⟨b, off + i, none⟩) hb).trans (HC.out i hlt)
                have c2 := (hbt.cell (p := ⟨b, off + k, none⟩) hb).trans (HC.out k (by omega))
                have hki' : (k : Int) < (i : Int) := by omega
                have hkl2 : (k : Int) < (ks.length : Int) := by omega
                have hk0 : (0 : Int) ≤ (k : Int) := by omega
                obtain ⟨y, hy⟩ : ∃ y, ks.getD k ByteArray.empty = y := ⟨_, rfl⟩
                rw [HX.out] at c1
                rw [hy] at c2
                have HY := hide hy
                have HKI := hide hki
                clear hy hlt hfr hbt hk hki
                cases hq : (y.toList == x.toList)
                · have HQ := hide hq
                  go_wp2_with fail
                  go_quiet (fail)
                  go_wp2_with fail
                  go_roundw
                  case rel =>
                    refine ⟨k + 1, by go_num, hide ⟨HKI.out, fun j hj => ?_, below_drewN HBT.out _, HST.out, hsz⟩⟩
                    by_cases hjk : j < k
                    · exact HFR.out j hjk
                    · obtain rfl : j = k := by omega
                      rw [HY.out, HX.out]
                      intro e
                      have := HQ.out
                      rw [Lib.toList_data, Lib.toList_data, e] at this
                      simp at this
                  case measure => have := HKI.out; simp [intOf]; omega
                · obtain rfl : R = false := by
                    rw [← HV.out]
                    refine keysB_twice HLT.out HKI.out ?_
                    rw [HY.out, HX.out, ← Lib.toList_data, ← Lib.toList_data]
                    exact eq_of_beq hq
                  go_wp2_with fail
                  go_quiet (fail)
                  go_wp2_with fail
                  go_ret
                  exact ⟨rfl, below_drewN HBT.out _⟩
end Go.Proofs.YtcgoklacjniemaaGreatDoor
