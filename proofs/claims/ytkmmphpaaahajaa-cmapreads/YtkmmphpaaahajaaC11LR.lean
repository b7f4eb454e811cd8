/-
  The law CmapReads, walked.
-/
import Derived.Test.YtkmmphpaaahajaaC11Op
import Derived.Test.YtkmmphpaaahajaaC11Rr
namespace Go.Proofs.Ytkmmphpaaahajaa
open Go.ChangeShapes Go.WideShapes Go.RowKit Go.Deep
set_option linter.unusedVariables false

theorem grpF_bd {a g : Nat} {cs : List Ch} (h : BD cs) : ∀ (j : Nat), g + j ≤ 4294967296 → ∀ {cs2}, grpF a g cs j = some cs2 → BD cs2
  | 0, _, cs2, e => by cases e; exact h
  | j + 1, hj, cs2, e => by
    rw [grpF] at e
    obtain ⟨x, h1, h2⟩ := Option.bind_eq_some_iff.1 e
    exact (grpF_bd h j (by omega) h1).stP (by omega) (by omega) h2
theorem accG_bd {s : List UInt8} {n : Nat} (hn : n ≤ 4096) : ∀ (k : Nat), (∀ i, i < k → okG s n i = true) → ∀ {cs}, accG s k = some cs → BD cs
  | 0, _, cs, e => by cases e; exact BD.nil
  | k + 1, hk, cs, e => by
    rw [accG] at e
    obtain ⟨x, h1, h2⟩ := Option.bind_eq_some_iff.1 e
    have ho := hk k (by omega)
    unfold okG at ho
    have ho2 := of_decide_eq_true ho
    exact grpF_bd (accG_bd hn k (fun i hi => hk i (by omega)) h1) _ (by omega) h2
theorem twV_bd {s : List UInt8} {n : Nat} (hn : n ≤ 4096) {cs : List Ch} (h : twV s n = some cs) : BD cs := by
  unfold twV at h
  split at h
  · rename_i hh
    rw [Bool.and_eq_true] at hh
    exact accG_bd hn _ (twA_iff.1 hh.2) h
  · cases h
theorem accS_bd {s : List UInt8} {m n : Nat} (hn : n ≤ 4096) : ∀ (k : Nat), (∀ i, i < k → okS s m i = true) → ∀ {cs}, accS s m n k = some cs → BD cs
  | 0, _, cs, e => by cases e; exact BD.nil
  | k + 1, hk, cs, e => by
    rw [accS] at e
    obtain ⟨x, h1, h2⟩ := Option.bind_eq_some_iff.1 e
    have ho := hk k (by omega)
    unfold okS at ho
    have ho2 := of_decide_eq_true ho
    have hb : sb s k < 65536 := n2_lt s _
    rw [segF_eq] at h2
    exact segG_bd (accS_bd hn k (fun i hi => hk i (by omega)) h1) hn (by omega) _ (by omega) h2
theorem foV_bd {s : List UInt8} {n : Nat} (hn : n ≤ 4096) {cs : List Ch} (h : foV s n = some cs) : BD cs := by
  unfold foV foW at h
  split at h
  · split at h
    · rename_i hh
      exact accS_bd hn _ (foA_iff.1 hh).1 h
    · cases h
  · cases h
theorem redV_bd {l : List UInt8} {n : Nat} (hn : n ≤ 4096) {cs : List Ch} (h : redV l n = some cs) : BD cs := by
  unfold redV redW at h
  split at h
  · split at h
    · exact twV_bd hn h
    · split at h
      · exact foV_bd hn h
      · cases h
  · cases h
theorem wf64 {a : Int} (h : (Lit.int .i64 a).wf = true) : R64 a := ⟨(bounds_i64 h).1, (bounds_i64 h).2⟩
set_option maxHeartbeats 1000000 in
theorem reads_walk (t : ByteArray) (x : Int) (w : World) (hx : R64 x) :
    Calls Try.prog 3 #[.string t, .int .i64 x] w fun e w' => e = .returned (.bool true) ∧ Below w.heap.size w w' := by
  have CW := hide wakes_any
  by_cases hl : 70000 < t.size
  · have hl' : (70000 : Int) < (t.size : Int) := by omega
    clear hx
    go_enter Try.func3, Try.ntmps3
    go_wp2_with fail
    refine (CW.out _).mono ?_
    rintro e w1 ⟨rfl, h1⟩
    have H1 := hide h1
    clear h1
    go_wp2_with fail
    go_ret
    exact ⟨rfl, H1.out⟩
  have hl' : ¬ (70000 : Int) < (t.size : Int) := by omega
  have CS := hide (fun a b ca cb n cs w hz hn hA hB => same_refl a b ca cb n cs w hz hn hA hB)
  by_cases hr : 1 ≤ x ∧ x ≤ 4096
  case neg =>
    have C1 := hide (fun w => read_arg t x w hr)
    have C2 := hide (fun w => rread_arg t x w hr)
    clear hr hx hl
    go_enter Try.func3, Try.ntmps3
    go_wp2_with fail
    refine (C1.out _).mono ?_
    rintro e w1 ⟨rfl, hw⟩
    replace hw := hw.symm
    subst hw
    go_wp2_with fail
    refine (C2.out _).mono ?_
    rintro e w2 ⟨rfl, hw⟩
    replace hw := hw.symm
    subst hw
    go_wp2_with fail
    refine (CS.out none none 0 0 0 [] w rfl (by omega) (Or.inl rfl) (Or.inl rfl)).mono ?_
    rintro e w3 ⟨rfl, h3⟩
    have H3 := hide h3
    clear h3
    go_wp2_with fail
    refine (CW.out _).mono ?_
    rintro e w4 ⟨rfl, h4⟩
    have H4 := hide (H3.out.trans (h4.mono H3.out.size))
    clear h4
    go_wp2_with fail
    go_ret
    exact ⟨rfl, H4.out⟩
  obtain ⟨n, hn⟩ : ∃ n : Nat, (n : Int) = x := ⟨x.toNat, by omega⟩
  subst hn
  have C1 := hide (fun w => read_any t n w (by omega) (by omega) (by omega))
  have C2 := hide (fun w => rread_any t n w (by omega) (by omega) (by omega))
  have HBD : Hid (∀ cs, redV t.data.toList n = some cs → cs.length ≤ 1073741824) := hide (fun cs h => by have := (redV_bd (by omega) h).1; omega)
  generalize redV t.data.toList n = R at *
  clear hr hx hl
  cases R with
  | none =>
    go_enter Try.func3, Try.ntmps3
    go_wp2_with fail
    refine (C1.out _).mono ?_
    rintro e w1 ⟨rfl, h1⟩
    have H1 := hide h1
    clear h1
    go_wp2_with fail
    refine (C2.out _).mono ?_
    rintro e w2 ⟨rfl, h2⟩
    have H2 := hide (H1.out.trans (h2.mono H1.out.size))
    clear h2
    go_wp2_with fail
    refine (CS.out none none 0 0 0 [] w2 rfl (by omega) (Or.inl rfl) (Or.inl rfl)).mono ?_
    rintro e w3 ⟨rfl, h3⟩
    have H3 := hide (H2.out.trans (h3.mono H2.out.size))
    clear h3
    go_wp2_with fail
    refine (CW.out _).mono ?_
    rintro e w4 ⟨rfl, h4⟩
    have H4 := hide (H3.out.trans (h4.mono H3.out.size))
    clear h4
    go_wp2_with fail
    go_ret
    exact ⟨rfl, H4.out⟩
  | some cs =>
    have hcl := HBD.out cs rfl
    have HCL := hide hcl
    clear hcl
    go_enter Try.func3, Try.ntmps3
    go_wp2_with fail
    refine (C1.out _).mono ?_
    rintro e w1 ⟨v1, rfl, hr1, h1⟩
    have H1 := hide h1
    obtain ⟨a1, k1, rfl, hl1⟩ := hr1.lst
    have HL1 := hide hl1
    clear h1 hr1 hl1
    go_wp2_with fail
    refine (C2.out _).mono ?_
    rintro e w2 ⟨v2, rfl, hr2, h2⟩
    have H2 := hide (H1.out.trans (h2.mono H1.out.size))
    obtain ⟨a2, k2, rfl, hl2⟩ := hr2.lst
    have HL2 := hide hl2
    have HL3 := hide (HL1.out.below h2)
    clear h2 hr2 hl2
    go_wp2_with fail
    refine (CS.out a1 a2 k1 k2 cs.length cs w2 rfl HCL.out HL3.out HL2.out).mono ?_
    rintro e w3 ⟨rfl, h3⟩
    have H3 := hide (H2.out.trans (h3.mono H2.out.size))
    clear h3
    go_wp2_with fail
    refine (CW.out _).mono ?_
    rintro e w4 ⟨rfl, h4⟩
    have H4 := hide (H3.out.trans (h4.mono H3.out.size))
    clear h4
    go_wp2_with fail
    go_ret
    exact ⟨rfl, H4.out⟩
end Go.Proofs.Ytkmmphpaaahajaa
