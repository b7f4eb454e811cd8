/-
  What the reader's number, instructions, flag and the functions width, offset, matrix answer.
-/
import Derived.Test.YtjacjdglklcijaaDoorG10Rd
namespace Go.Proofs.YtjacjdglklcijaaDoor
open Go.RowKit Go.Deep
set_option linter.unusedVariables false

theorem rnum_ok (b : Nat) (s : ByteArray) (a : Nat) (w : World) (h : RA w b s a) (hs : s.size ≤ 1000000) (hc : a + 2 ≤ s.size) :
    Calls Tryd.prog 30 #[.pointer (some ⟨b, 0, none⟩)] w fun e w' => e = .returned (.int .i64 ((n2 s.data.toList a : Nat) : Int)) ∧ But b w w' ∧ RA w' b s (a + 2) := by
  have C := hide (pass_ok b s a 2 w h hs hc)
  have CN := hide (fun w => num_any (s.extract a (a + 2)) w (by rw [ext_size s a 2 hc]; omega))
  rw [ext2 s a hc] at CN
  clear h hs hc
  go_enter Tryd.func30, Tryd.ntmps30
  go_wp2_with fail
  refine C.out.mono ?_
  rintro e w1 ⟨rfl, h1, h2⟩
  have H1 := hide h1
  have H2 := hide h2
  clear h1 h2
  go_wp2_with fail
  refine (CN.out _).mono ?_
  rintro e w2 ⟨rfl, hw⟩
  subst hw
  go_wp2_with fail
  go_ret
  exact ⟨rfl, H1.out, H2.out⟩
theorem rnum_bad (b : Nat) (s : ByteArray) (a : Nat) (w : World) (h : RA w b s a) (hs : s.size ≤ 1000000) (ha : a ≤ s.size) (hc : ¬ a + 2 ≤ s.size) :
    Calls Tryd.prog 30 #[.pointer (some ⟨b, 0, none⟩)] w fun e w' => e = thrown ∧ But b w w' := by
  have C := hide (pass_bad b s a 2 w h hs ha hc)
  clear h hs hc
  go_enter Tryd.func30, Tryd.ntmps30
  go_wp2_with fail
  refine C.out.mono ?_
  rintro e w1 ⟨rfl, h1⟩
  exact ⟨rfl, rfl, h1⟩
/- instructions: where they end -/
def insV (l : List UInt8) (N a : Nat) : Option Nat := if a + 2 ≤ N ∧ a + 2 + n2 l a ≤ N then some (a + 2 + n2 l a) else none
def InR (b : Nat) (w : World) (s : ByteArray) (R : Option Nat) (e : Ending) (w' : World) : Prop := match R with
  | some q => e = .returned (.tuple #[]) ∧ But b w w' ∧ RA w' b s q
  | none => e = thrown ∧ But b w w'
theorem ins_any (b : Nat) (s : ByteArray) (a : Nat) (w : World) (h : RA w b s a) (hs : s.size ≤ 1000000) (ha : a ≤ s.size) :
    Calls Tryd.prog 35 #[.pointer (some ⟨b, 0, none⟩)] w (InR b w s (insV s.data.toList s.size a)) := by
  by_cases h2 : a + 2 ≤ s.size
  · have C := hide (rnum_ok b s a w h hs h2)
    by_cases h3 : a + 2 + n2 s.data.toList a ≤ s.size
    · have hv : insV s.data.toList s.size a = some (a + 2 + n2 s.data.toList a) := by unfold insV; rw [if_pos ⟨h2, h3⟩]
      rw [hv]
      have CP := hide (fun w' (h' : RA w' b s (a + 2)) => pass_ok b s (a + 2) (n2 s.data.toList a) w' h' hs h3)
      generalize n2 s.data.toList a = X at C CP ⊢
      clear hv h h3
      go_enter Tryd.func35, Tryd.ntmps35
      go_wp2_with fail
      refine C.out.mono ?_
      rintro e w1 ⟨rfl, h1, h2⟩
      have H1 := hide h1
      have H2 := hide h2
      clear h1 h2
      go_wp2_with fail
      refine (CP.out _ H2.out).mono ?_
      rintro e w2 ⟨rfl, h3, h4⟩
      have H3 := hide (H1.out.trans h3)
      have H4 := hide h4
      clear h3 h4 H1 H2
      go_wp2_with fail
      go_end0
      exact ⟨rfl, H3.out, H4.out⟩
    · have hv : insV s.data.toList s.size a = none := by unfold insV; rw [if_neg (fun hh => h3 hh.2)]
      rw [hv]
      have CP := hide (fun w' (h' : RA w' b s (a + 2)) => pass_bad b s (a + 2) (n2 s.data.toList a) w' h' hs h2 h3)
      generalize n2 s.data.toList a = X at C CP ⊢
      clear hv h h3
      go_enter Tryd.func35, Tryd.ntmps35
      go_wp2_with fail
      refine C.out.mono ?_
      rintro e w1 ⟨rfl, h1, h2⟩
      have H1 := hide h1
      have H2 := hide h2
      clear h1 h2
      go_wp2_with fail
      refine (CP.out _ H2.out).mono ?_
      rintro e w2 ⟨rfl, h3⟩
      exact ⟨rfl, rfl, H1.out.trans h3⟩
  · have C := hide (rnum_bad b s a w h hs ha h2)
    have hv : insV s.data.toList s.size a = none := by unfold insV; rw [if_neg (fun hh => h2 hh.1)]
    rw [hv]
    clear h hv
    go_enter Tryd.func35, Tryd.ntmps35
    go_wp2_with fail
    refine C.out.mono ?_
    rintro e w1 ⟨rfl, h1⟩
    exact ⟨rfl, rfl, h1⟩
theorem hb_t {f m : Nat} (h : hb f m = true) : f &&& m ≠ 0 := by simpa [hb] using h
theorem hb_f {f m : Nat} (h : hb f m = false) : f &&& m = 0 := by simpa [hb] using h
/- the test of a bit, as the walk has it -/
theorem bit_t {f m : Nat} (hf : f ≤ 65535) (hm : m ≤ 65535) (h : hb f m = true) : ∃ x : Int, bits .and .i64 (f : Int) (m : Int) = x ∧ (x == 0) = false ∧ ¬ x = 0 := by
  have h1 := hb_t h
  refine ⟨_, and_nat f m hf hm, ?_, ?_⟩
  · rw [beq_eq_false_iff_ne]; omega
  · omega
theorem bit_f {f m : Nat} (hf : f ≤ 65535) (hm : m ≤ 65535) (h : hb f m = false) : bits .and .i64 (f : Int) (m : Int) = 0 := by
  rw [and_nat f m hf hm, hb_f h]; rfl
theorem width_any (f o n : Nat) (w : World) (hf : f ≤ 65535) (ho : o ≤ 65535) (hn : n ≤ 65535) :
    Calls Tryd.prog 41 #[.int .i64 (f : Int), .int .i64 (o : Int), .int .i64 (n : Int)] w fun e w' => e = .returned (.int .i64 ((wid f o n : Nat) : Int)) ∧ w' = w := by
  cases h1 : hb f o
  · cases h2 : hb f n
    · have hv : wid f o n = 2 := by unfold wid; simp [h1, h2]
      rw [hv]
      have e1 := bit_f hf ho h1
      have e2 := bit_f hf hn h2
      clear hv h1 h2 hf ho hn
      go_enter Tryd.func41, Tryd.ntmps41
      go_wp2_with fail
      go_ret
      exact ⟨rfl, rfl⟩
    · have hv : wid f o n = 0 := by unfold wid; simp [h1, h2]
      rw [hv]
      have e1 := bit_f hf ho h1
      obtain ⟨x, e2, e3, e4⟩ := bit_t hf hn h2
      clear hv h1 h2 hf ho hn
      go_enter Tryd.func41, Tryd.ntmps41
      go_wp2_with fail
      go_ret
      exact ⟨rfl, rfl⟩
  · have hv : wid f o n = 1 := by unfold wid; simp [h1]
    rw [hv]
    obtain ⟨x, e2, e3, e4⟩ := bit_t hf ho h1
    clear hv h1 hf ho hn
    go_enter Tryd.func41, Tryd.ntmps41
    go_wp2_with fail
    go_ret
    exact ⟨rfl, rfl⟩
theorem offset_any (f : Nat) (w : World) (hf : f ≤ 65535) : Calls Tryd.prog 38 #[.int .i64 (f : Int)] w fun e w' => e = .returned (.int .i64 ((offs f : Nat) : Int)) ∧ w' = w := by
  cases h1 : hb f 1
  · have hv : offs f = 2 := by unfold offs; simp [h1]
    rw [hv]
    have e1 : bits .and .i64 (f : Int) 1 = 0 := bit_f (m := 1) hf (by omega) h1
    clear hv h1 hf
    go_enter Tryd.func38, Tryd.ntmps38
    go_wp2_with fail
    go_ret
    exact ⟨rfl, rfl⟩
  · have hv : offs f = 4 := by unfold offs; simp [h1]
    rw [hv]
    obtain ⟨x, e2, e3, e4⟩ := bit_t hf (m := 1) (by omega) h1
    have e2 : bits .and .i64 (f : Int) 1 = x := e2
    clear hv h1 hf
    go_enter Tryd.func38, Tryd.ntmps38
    go_wp2_with fail
    go_ret
    exact ⟨rfl, rfl⟩
def MtR (w : World) (R : Option Nat) (e : Ending) (w' : World) : Prop := match R with
  | some k => e = .returned (.int .i64 (k : Int)) ∧ w' = w
  | none => e = thrown ∧ w' = w
theorem matrix_any (f : Nat) (w : World) (hf : f ≤ 65535) : Calls Tryd.prog 39 #[.int .i64 (f : Int)] w (MtR w (mtx f)) := by
  have ha : bits .and .i64 (f : Int) 200 = ((f &&& 200 : Nat) : Int) := and_nat f 200 hf (by omega)
  have CT := hide must_t
  have CF := hide must_f
  unfold mtx
  generalize f &&& 200 = x at ha ⊢
  by_cases h1 : x = 8
  · subst h1
    simp only [if_true]
    go_enter Tryd.func39, Tryd.ntmps39
    go_wp2_with fail
    go_ret
    exact ⟨rfl, rfl⟩
  by_cases h2 : x = 64
  · subst h2
    simp only [if_true, if_neg h1]
    go_enter Tryd.func39, Tryd.ntmps39
    go_wp2_with fail
    go_ret
    exact ⟨rfl, rfl⟩
  by_cases h3 : x = 128
  · subst h3
    simp only [if_true, if_neg h1, if_neg h2]
    go_enter Tryd.func39, Tryd.ntmps39
    go_wp2_with fail
    go_ret
    exact ⟨rfl, rfl⟩
  by_cases h4 : x = 0
  · subst h4
    simp only [if_true, if_neg h1, if_neg h2, if_neg h3]
    go_enter Tryd.func39, Tryd.ntmps39
    go_wp2_with (go_at_call 33; refine (CT.out _).mono ?_; rintro e wy ⟨rfl, hy⟩; subst wy)
    go_ret
    exact ⟨rfl, rfl⟩
  · simp only [if_neg h1, if_neg h2, if_neg h3, if_neg h4]
    have q1 : ((x : Int) == 8) = false := by rw [beq_eq_false_iff_ne]; omega
    have q2 : ((x : Int) == 64) = false := by rw [beq_eq_false_iff_ne]; omega
    have q3 : ((x : Int) == 128) = false := by rw [beq_eq_false_iff_ne]; omega
    have q4 : ((x : Int) == 0) = false := by rw [beq_eq_false_iff_ne]; omega
    clear h1 h2 h3 h4
    go_enter Tryd.func39, Tryd.ntmps39
    go_wp2_with (go_at_call 33; refine (CF.out _).mono ?_; rintro e wy ⟨rfl, hy⟩; subst wy)
    exact ⟨rfl, rfl, rfl⟩
/- a flag: the bits, how many more, where it ends -/
def flaV (l : List UInt8) (N a : Nat) : Option (Nat × Nat × Nat) := if a < N then (if hb (bt l a) 8 then (if a + 1 < N then some (bt l a, bt l (a + 1), a + 2) else none) else some (bt l a, 0, a + 1)) else none
def FlR (b : Nat) (w : World) (s : ByteArray) (R : Option (Nat × Nat × Nat)) (e : Ending) (w' : World) : Prop := match R with
  | some (f, m, q) => e = .returned (.tuple #[.int .i64 (f : Int), .int .i64 (m : Int)]) ∧ But b w w' ∧ RA w' b s q
  | none => e = thrown ∧ But b w w'
theorem flag_any (b : Nat) (s : ByteArray) (a : Nat) (w : World) (h : RA w b s a) (hs : s.size ≤ 1000000) (ha : a ≤ s.size) :
    Calls Tryd.prog 40 #[.pointer (some ⟨b, 0, none⟩)] w (FlR b w s (flaV s.data.toList s.size a)) := by
  by_cases h1 : a < s.size
  · have C := hide (pass_ok b s a 1 w h hs h1)
    have CN := hide (fun w => num_any (s.extract a (a + 1)) w (by rw [ext_size s a 1 h1]; omega))
    rw [ext1 s a h1] at CN
    have hf := bt_lt s.data.toList a
    cases h8 : hb (bt s.data.toList a) 8
    · have hv : flaV s.data.toList s.size a = some (bt s.data.toList a, 0, a + 1) := by unfold flaV; simp [h1, h8]
      rw [hv]
      have e1 : bits .and .i64 ((bt s.data.toList a : Nat) : Int) 8 = 0 := bit_f (m := 8) (by omega) (by omega) h8
      generalize bt s.data.toList a = F at CN e1 ⊢
      clear h hv h8 hf
      go_enter Tryd.func40, Tryd.ntmps40
      go_wp2_with fail
      refine C.out.mono ?_
      rintro e w1 ⟨rfl, h1, h2⟩
      have H1 := hide h1
      have H2 := hide h2
      clear h1 h2
      go_wp2_with fail
      refine (CN.out _).mono ?_
      rintro e w2 ⟨rfl, hw⟩
      subst hw
      go_wp2_with fail
      go_ret2
      exact ⟨rfl, H1.out, H2.out⟩
    · obtain ⟨x, e1, e2, e3⟩ := bit_t (f := bt s.data.toList a) (m := 8) (by omega) (by omega) h8
      have e1 : bits .and .i64 ((bt s.data.toList a : Nat) : Int) 8 = x := e1
      by_cases h2 : a + 1 < s.size
      · have hv : flaV s.data.toList s.size a = some (bt s.data.toList a, bt s.data.toList (a + 1), a + 2) := by unfold flaV; simp [h1, h2, h8]
        rw [hv]
        have C2 := hide (fun w' (h' : RA w' b s (a + 1)) => pass_ok b s (a + 1) 1 w' h' hs h2)
        have CM := hide (fun w => num_any (s.extract (a + 1) (a + 1 + 1)) w (by rw [ext_size s (a + 1) 1 h2]; omega))
        rw [ext1 s (a + 1) h2] at CM
        generalize bt s.data.toList a = F at CN e1 ⊢
        generalize bt s.data.toList (a + 1) = G at CM ⊢
        clear h hv h8 hf h1 h2
        go_enter Tryd.func40, Tryd.ntmps40
        go_wp2_with fail
        refine C.out.mono ?_
        rintro e w1 ⟨rfl, h1, h2⟩
        have H1 := hide h1
        have H2 := hide h2
        clear h1 h2
        go_wp2_with fail
        refine (CN.out _).mono ?_
        rintro e w2 ⟨rfl, hw⟩
        subst hw
        go_wp2_with fail
        refine (C2.out _ H2.out).mono ?_
        rintro e w3 ⟨rfl, h1, h2⟩
        have H3 := hide (H1.out.trans h1)
        have H4 := hide h2
        clear h1 h2
        go_wp2_with fail
        refine (CM.out _).mono ?_
        rintro e w4 ⟨rfl, hw⟩
        subst hw
        go_wp2_with fail
        go_ret2
        exact ⟨rfl, H3.out, H4.out⟩
      · have hv : flaV s.data.toList s.size a = none := by unfold flaV; simp [h2, h8]
        rw [hv]
        have C2 := hide (fun w' (h' : RA w' b s (a + 1)) => pass_bad b s (a + 1) 1 w' h' hs h1 (by omega))
        generalize bt s.data.toList a = F at CN e1 ⊢
        clear h hv h8 hf h1 h2
        go_enter Tryd.func40, Tryd.ntmps40
        go_wp2_with fail
        refine C.out.mono ?_
        rintro e w1 ⟨rfl, h1, h2⟩
        have H1 := hide h1
        have H2 := hide h2
        clear h1 h2
        go_wp2_with fail
        refine (CN.out _).mono ?_
        rintro e w2 ⟨rfl, hw⟩
        subst hw
        go_wp2_with fail
        refine (C2.out _ H2.out).mono ?_
        rintro e w3 ⟨rfl, h1⟩
        exact ⟨rfl, rfl, H1.out.trans h1⟩
  · have C := hide (pass_bad b s a 1 w h hs ha (by omega))
    have hv : flaV s.data.toList s.size a = none := by unfold flaV; simp [h1]
    rw [hv]
    clear h hv
    go_enter Tryd.func40, Tryd.ntmps40
    go_wp2_with fail
    refine C.out.mono ?_
    rintro e w1 ⟨rfl, h1⟩
    exact ⟨rfl, rfl, h1⟩
end Go.Proofs.YtjacjdglklcijaaDoor
