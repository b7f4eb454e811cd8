/-
  The reference's attr.
-/
import Derived.Test.YtpmdekhjodhdmaaDoorK17Re
namespace Go.Proofs.YtpmdekhjodhdmaaDoor.K17
open Go.RowKit Go.Proofs.YtpmdekhjodhdmaaDoor
open Go.Lib
set_option linter.unusedVariables false
set_option linter.unusedSimpArgs false
set_option maxRecDepth 100000

/- an attribute as the reference reads it: controls apart -/
def atR (l : List UInt8) : Option (List UInt8 × List UInt8 × List UInt8) := match nm l with
  | none => none
  | some (x, r) => if hp [61] (bk r) then (if hp [34] (bk (tp [61] (bk r))) then (match rv (tp [34] (bk (tp [61] (bk r)))) with
      | none => none
      | some (t, q) => some (x, t, q)) else none) else none
def AaR (w : World) (n : Nat) (R : Option (List UInt8 × List UInt8 × List UInt8)) (e : Ending) (w' : World) : Prop := Below w.heap.size w w' ∧ match R with
  | some (x, t, r) => e = .returned (.tuple #[.agg #[.string ⟨x.toArray⟩, .string ⟨t.toArray⟩], .int .i64 ((n - r.length : Nat) : Int), .bool true])
  | none => ∃ x y k, e = .returned (.tuple #[.agg #[.string x, .string y], .int .i64 k, .bool false])
theorem nmL_le (q : List UInt8) : nmL q ≤ q.length ∧ nmL q ≤ 17 := by
  unfold nmL
  have : (q.takeWhile nmB).length ≤ q.length := (List.takeWhile_prefix _).length_le
  split <;> omega
/- is a byte at a place? -/
theorem at_hp (s : ByteArray) (n : Nat) (b : UInt8) (q : List UInt8) (hq : s.data.toList.drop n = q) (h : n < s.size) : hp [b] q = (s[n] == b) := by
  rw [← hq, List.drop_eq_getElem_cons (by rw [size_l]; exact h)]
  unfold hp Lib.hasPrefix
  simp only [List.isPrefixOf, Bool.and_true]
  rw [Bool.eq_iff_iff, beq_iff_eq, beq_iff_eq]
  constructor
  · intro h; exact h.symm
  · intro h; exact h.symm
theorem at_hpe (s : ByteArray) (n : Nat) (b : UInt8) (q : List UInt8) (hq : s.data.toList.drop n = q) (h : s.size ≤ n) : hp [b] q = false := by
  rw [← hq, List.drop_eq_nil_of_le (by rw [size_l]; exact h)]; rfl
theorem at_tp (s : ByteArray) (n : Nat) (b : UInt8) (q : List UInt8) (hq : s.data.toList.drop n = q) (h : hp [b] q = true) : s.data.toList.drop (n + 1) = tp [b] q := by
  have := tp_one h
  rw [← List.drop_drop, hq]
  calc q.drop 1 = (b :: tp [b] q).drop 1 := by rw [← this]
    _ = _ := rfl
theorem two_at (w : World) (X : ByteArray) : Blk ((w.alloc (.cells #[.string ⟨#[]⟩, .string ⟨#[]⟩] 47)).alloc (.cells #[.string X, .string ⟨#[]⟩] 47)) w.heap.size #[.string ⟨#[]⟩, .string ⟨#[]⟩] 47 ∧ Blk ((w.alloc (.cells #[.string ⟨#[]⟩, .string ⟨#[]⟩] 47)).alloc (.cells #[.string X, .string ⟨#[]⟩] 47)) (w.heap.size + 1) #[.string X, .string ⟨#[]⟩] 47 ∧ Below w.heap.size w ((w.alloc (.cells #[.string ⟨#[]⟩, .string ⟨#[]⟩] 47)).alloc (.cells #[.string X, .string ⟨#[]⟩] 47)) := by
  have e1 : (w.alloc (.cells #[.string ⟨#[]⟩, .string ⟨#[]⟩] 47)).heap.size = w.heap.size + 1 := by simp
  have b1 := Blk.new (w.alloc (.cells #[.string ⟨#[]⟩, .string ⟨#[]⟩] 47)) #[.string X, .string ⟨#[]⟩] 47
  rw [e1] at b1
  exact ⟨(Blk.new w _ _).below ((Below.refl _ _).alloc (Nat.le_refl _) _), b1, ((Below.refl _ _).alloc (Nat.le_refl _) _).alloc (by simp) _⟩
theorem at_end {w w2 : World} {X0 : ByteArray} (h0 : Blk w2 w.heap.size #[.string ⟨#[]⟩, .string ⟨#[]⟩] 47) (h1 : Blk w2 (w.heap.size + 1) #[.string X0, .string ⟨#[]⟩] 47) (hb : Below w.heap.size w w2) (X Y : ByteArray) :
    Below w.heap.size w (((w2.setCell ⟨w.heap.size + 1, 1, none⟩ (.string Y)).setCell ⟨w.heap.size, 0, none⟩ (.string X)).setCell ⟨w.heap.size, 1, none⟩ (.string Y)) ∧ (((w2.setCell ⟨w.heap.size + 1, 1, none⟩ (.string Y)).setCell ⟨w.heap.size, 0, none⟩ (.string X)).setCell ⟨w.heap.size, 1, none⟩ (.string Y)).cell? ⟨w.heap.size, 0, none⟩ = some (.string X) ∧ (((w2.setCell ⟨w.heap.size + 1, 1, none⟩ (.string Y)).setCell ⟨w.heap.size, 0, none⟩ (.string X)).setCell ⟨w.heap.size, 1, none⟩ (.string Y)).cell? ⟨w.heap.size, 1, none⟩ = some (.string Y) := by
  have k := ((h0.other (b' := w.heap.size + 1) (by omega) 1 (.string Y)).set 0 (.string X)).set 1 (.string Y)
  refine ⟨((hb.setCell (p := ⟨w.heap.size + 1, 1, none⟩) (by simp) _).setCell (p := ⟨w.heap.size, 0, none⟩) (by simp) _).setCell (p := ⟨w.heap.size, 1, none⟩) (by simp) _, ?_, ?_⟩
  · simpa using k.cell 0
  · simpa using k.cell 1
set_option maxHeartbeats 8000000 in
theorem rattr_any (s : ByteArray) (p : Nat) (w : World) (hs : s.size ≤ 65536) (hp' : p ≤ s.size) :
    Calls Tryd.prog 46 #[.string s, .int .i64 (p : Int)] w (AaR w s.size (atR (s.data.toList.drop p))) := by
  have hs' : (s.size : Int) ≤ 65536 := by omega
  have hpi : (p : Int) ≤ (s.size : Int) := by omega
  have hl := size_l s
  have CN := hide (fun w => rname_any s p w (by omega) hp')
  have CB := hide (fun n w h => rblanks_any s n w (by omega) h)
  have CV := hide (fun n w h => rvalue_any s n w hs h)
  have hnm := nmL_nm (s.data.toList.drop p)
  have hnl : nmL (s.data.toList.drop p) ≤ (s.data.toList.drop p).length ∧ nmL (s.data.toList.drop p) ≤ 17 := nmL_le _
  rw [List.length_drop, hl] at hnl
  obtain ⟨n, hn⟩ : ∃ n, nmL (s.data.toList.drop p) = n := ⟨_, rfl⟩
  rw [hn] at CN hnm hnl
  have hni : (n : Int) ≤ 17 := by omega
  unfold atR
  rw [hnm]
  obtain ⟨p1, hp1⟩ : ∃ p1, p + n = p1 := ⟨_, rfl⟩
  have hp1i : (p : Int) + (n : Int) = (p1 : Int) := by omega
  have hp1l : p1 ≤ s.size := by omega
  have hp1l' : (p1 : Int) ≤ (s.size : Int) := by omega
  have hx : s.extract p p1 = ⟨((s.data.toList.drop p).take n).toArray⟩ := by rw [str_eq, Lib.extract_data, mk_l]; congr 1; omega
  have hd1 : (s.data.toList.drop p).drop n = s.data.toList.drop p1 := by rw [List.drop_drop, hp1]
  rw [hd1]
  obtain ⟨X, hX⟩ : ∃ X, (s.data.toList.drop p).take n = X := ⟨_, rfl⟩
  rw [hX] at hx ⊢
  have b0 : (p : Int) ≤ (p1 : Int) := by omega
  have b1 : (0 : Int) ≤ (p : Int) := by omega
  by_cases hok : 1 ≤ n ∧ n ≤ 16
  · rw [if_pos hok]
    have o1 : ¬ (n : Int) < 1 := by omega
    have o2 : ¬ (16 : Int) < (n : Int) := by omega
    have CB1 := hide (fun w => CB.out p1 w hp1l)
    obtain ⟨g1, g2, g3⟩ := bkP_le s.data.toList p1 (by rw [hl]; exact hp1l)
    obtain ⟨p2, hp2⟩ : ∃ p2, bkP s.data.toList p1 = p2 := ⟨_, rfl⟩
    rw [hp2] at g1 g2 g3 CB1
    rw [hl] at g2
    have g2' : (p2 : Int) ≤ (s.size : Int) := by omega
    simp only
    rw [← g3]
    have H1 := hide (And.intro g1 g2)
    obtain ⟨X', hXX⟩ : ∃ X' : ByteArray, (⟨X.toArray⟩ : ByteArray) = X' := ⟨_, rfl⟩
    have HXX := hide hXX
    rw [hXX] at hx
    clear hnm hnl hn hd1 hX hXX CB hp2 CV hs hp' hl
    by_cases c1 : p2 < s.size
    · have c1' : (p2 : Int) < (s.size : Int) := by omega
      have c1d : decide (s.size ≤ p2) = false := decide_eq_false (by omega)
      rw [at_hp s p2 61 _ rfl c1]
      by_cases e61 : s[p2] = 61
      · have f61 : ((s[p2].toNat : Int) != 61) = false := by rw [e61]; rfl
        have hT := at_tp s p2 61 _ rfl (by rw [at_hp s p2 61 _ rfl c1, e61]; rfl)
        rw [if_pos (by rw [e61]; rfl), ← hT]
        obtain ⟨q2, hq2⟩ : ∃ q2, p2 + 1 = q2 := ⟨_, rfl⟩
        have hq2i : (p2 : Int) + 1 = (q2 : Int) := by omega
        have hq2l : q2 ≤ s.size := by omega
        rw [hq2]
        have CB2 := hide (fun w => rblanks_any s q2 w (by omega) hq2l)
        obtain ⟨_, k2, k3⟩ := bkP_le s.data.toList q2 (by rw [size_l]; exact hq2l)
        obtain ⟨p3, hp3⟩ : ∃ p3, bkP s.data.toList q2 = p3 := ⟨_, rfl⟩
        rw [hp3] at k2 k3 CB2
        rw [size_l] at k2
        have k2' : (p3 : Int) ≤ (s.size : Int) := by omega
        rw [← k3]
        clear hT hp3 k3 e61 hq2
        by_cases c3 : p3 < s.size
        · have c3' : (p3 : Int) < (s.size : Int) := by omega
          have c3d : decide (s.size ≤ p3) = false := decide_eq_false (by omega)
          rw [at_hp s p3 34 _ rfl c3]
          by_cases e34 : s[p3] = 34
          · have f34 : ((s[p3].toNat : Int) != 34) = false := by rw [e34]; rfl
            have hT := at_tp s p3 34 _ rfl (by rw [at_hp s p3 34 _ rfl c3, e34]; rfl)
            rw [if_pos (by rw [e34]; rfl), ← hT]
            obtain ⟨q4, hq4⟩ : ∃ q4, p3 + 1 = q4 := ⟨_, rfl⟩
            have hq4i : (p3 : Int) + 1 = (q4 : Int) := by omega
            have hq4l : q4 ≤ s.size := by omega
            have hq4l' : (q4 : Int) ≤ (s.size : Int) := by omega
            rw [hq4]
            have CV4 := fun w => rvalue_any s q4 w (by omega) hq4l
            cases hrv : rv (s.data.toList.drop q4) with
            | none =>
              simp only [hrv] at CV4
              have CV4 := hide (show ∀ w, Calls Tryd.prog 64 #[.string s, .int .i64 (q4 : Int)] w (fun e w' => Below w.heap.size w w' ∧ e = .returned (.tuple #[.string ⟨#[]⟩, .int .i64 0, .bool false])) from CV4)
              clear hT hq4 e34 hrv
              obtain ⟨W0, W1, WB⟩ := two_at w X'
              go_enter Tryd.func46, Tryd.ntmps46
              go_wp2_with (first
                | (go_at_call 43; refine (CN.out _).mono ?_; rintro e w1 ⟨rfl, hw⟩; subst hw)
                | (go_at_call 44; refine (CB1.out _).mono ?_; rintro e w1 ⟨rfl, hw⟩; subst hw; clear CB1)
                | (go_at_call 44; refine (CB2.out _).mono ?_; rintro e w1 ⟨rfl, hw⟩; subst hw)
                | (go_at_call 64; refine (CV4.out _).mono ?_; rintro e w2 ⟨h2, rfl⟩; have A0 := (W0.below h2).cell 0; have A1 := (W0.below h2).cell 1; have B0 := (W1.below h2).cell 0; have B1 := (W1.below h2).cell 1; simp at A0 A1 B0 B1; have A2 := (W0.below h2).frozen 0; have A3 := (W0.below h2).frozen 1; have B2 := (W1.below h2).frozen 0; have B3 := (W1.below h2).frozen 1; have HB := hide (WB.trans (h2.mono WB.size)); have H2 := hide h2; clear h2))
              obtain ⟨FB, f0, f1⟩ := at_end (W0.below H2.out) (W1.below H2.out) HB.out X' ⟨#[]⟩
              generalize (((w2.setCell ⟨w.heap.size + 1, 1, none⟩ (.string ⟨#[]⟩)).setCell ⟨w.heap.size, 0, none⟩ (.string X')).setCell ⟨w.heap.size, 1, none⟩ (.string ⟨#[]⟩)) = wf at FB f0 f1 ⊢
              exact bodyPost_ret (v := .tuple #[.agg #[.string X', .string ⟨#[]⟩], .int .i64 0, .bool false]) (by simp [results, Tryd.results46, go_sem, f0, f1]) rfl ⟨FB, _, _, _, rfl⟩
            | some u =>
              obtain ⟨t, r⟩ := u
              simp only [hrv] at CV4
              have CV4 := hide (show ∀ w, Calls Tryd.prog 64 #[.string s, .int .i64 (q4 : Int)] w (fun e w' => Below w.heap.size w w' ∧ e = .returned (.tuple #[.string ⟨t.toArray⟩, .int .i64 ((s.size - r.length : Nat) : Int), .bool true])) from CV4)
              clear hT hq4 e34 hrv
              obtain ⟨W0, W1, WB⟩ := two_at w X'
              go_enter Tryd.func46, Tryd.ntmps46
              go_wp2_with (first
                | (go_at_call 43; refine (CN.out _).mono ?_; rintro e w1 ⟨rfl, hw⟩; subst hw)
                | (go_at_call 44; refine (CB1.out _).mono ?_; rintro e w1 ⟨rfl, hw⟩; subst hw; clear CB1)
                | (go_at_call 44; refine (CB2.out _).mono ?_; rintro e w1 ⟨rfl, hw⟩; subst hw)
                | (go_at_call 64; refine (CV4.out _).mono ?_; rintro e w2 ⟨h2, rfl⟩; have A0 := (W0.below h2).cell 0; have A1 := (W0.below h2).cell 1; have B0 := (W1.below h2).cell 0; have B1 := (W1.below h2).cell 1; simp at A0 A1 B0 B1; have A2 := (W0.below h2).frozen 0; have A3 := (W0.below h2).frozen 1; have B2 := (W1.below h2).frozen 0; have B3 := (W1.below h2).frozen 1; have HB := hide (WB.trans (h2.mono WB.size)); have H2 := hide h2; clear h2))
              obtain ⟨FB, f0, f1⟩ := at_end (W0.below H2.out) (W1.below H2.out) HB.out X' ⟨t.toArray⟩
              generalize (((w2.setCell ⟨w.heap.size + 1, 1, none⟩ (.string ⟨t.toArray⟩)).setCell ⟨w.heap.size, 0, none⟩ (.string X')).setCell ⟨w.heap.size, 1, none⟩ (.string ⟨t.toArray⟩)) = wf at FB f0 f1 ⊢
              exact bodyPost_ret (v := .tuple #[.agg #[.string X', .string ⟨t.toArray⟩], .int .i64 ((s.size - r.length : Nat) : Int), .bool true]) (by simp [results, Tryd.results46, go_sem, f0, f1]) rfl ⟨FB, by show _ = Ending.returned (.tuple #[.agg #[.string ⟨X.toArray⟩, .string ⟨t.toArray⟩], .int .i64 ((s.size - r.length : Nat) : Int), .bool true]); rw [HXX.out]⟩
          · have f34 : ((s[p3].toNat : Int) != 34) = true := by
              rw [bne_iff_ne]; intro h; apply e34; apply UInt8.toNat_inj.1; show s[p3].toNat = 34; omega
            rw [if_neg (by rw [beq_iff_eq]; exact e34)]
            clear e34
            go_enter Tryd.func46, Tryd.ntmps46
            go_wp2_with (first
              | (go_at_call 43; refine (CN.out _).mono ?_; rintro e w1 ⟨rfl, hw⟩; subst hw)
              | (go_at_call 44; refine (CB1.out _).mono ?_; rintro e w1 ⟨rfl, hw⟩; subst hw; clear CB1)
              | (go_at_call 44; refine (CB2.out _).mono ?_; rintro e w1 ⟨rfl, hw⟩; subst hw))
            exact bodyPost_ret (v := .tuple #[.agg #[.string ⟨#[]⟩, .string ⟨#[]⟩], .int .i64 0, .bool false]) (by simp [results, Tryd.results46, go_sem]) rfl ⟨((Below.refl _ _).alloc (Nat.le_refl _) _).alloc (by simp) _, _, _, _, rfl⟩
        · have c3' : ¬ (p3 : Int) < (s.size : Int) := by omega
          have c3d : decide (s.size ≤ p3) = true := decide_eq_true (by omega)
          rw [at_hpe s p3 34 _ rfl (by omega), if_neg (by simp)]
          go_enter Tryd.func46, Tryd.ntmps46
          go_wp2_with (first
            | (go_at_call 43; refine (CN.out _).mono ?_; rintro e w1 ⟨rfl, hw⟩; subst hw)
            | (go_at_call 44; refine (CB1.out _).mono ?_; rintro e w1 ⟨rfl, hw⟩; subst hw; clear CB1)
            | (go_at_call 44; refine (CB2.out _).mono ?_; rintro e w1 ⟨rfl, hw⟩; subst hw))
          exact bodyPost_ret (v := .tuple #[.agg #[.string ⟨#[]⟩, .string ⟨#[]⟩], .int .i64 0, .bool false]) (by simp [results, Tryd.results46, go_sem]) rfl ⟨((Below.refl _ _).alloc (Nat.le_refl _) _).alloc (by simp) _, _, _, _, rfl⟩
      · have f61 : ((s[p2].toNat : Int) != 61) = true := by
          rw [bne_iff_ne]; intro h; apply e61; apply UInt8.toNat_inj.1; show s[p2].toNat = 61; omega
        rw [if_neg (by rw [beq_iff_eq]; exact e61)]
        clear e61
        go_enter Tryd.func46, Tryd.ntmps46
        go_wp2_with (first
          | (go_at_call 43; refine (CN.out _).mono ?_; rintro e w1 ⟨rfl, hw⟩; subst hw)
          | (go_at_call 44; refine (CB1.out _).mono ?_; rintro e w1 ⟨rfl, hw⟩; subst hw; clear CB1))
        exact bodyPost_ret (v := .tuple #[.agg #[.string ⟨#[]⟩, .string ⟨#[]⟩], .int .i64 0, .bool false]) (by simp [results, Tryd.results46, go_sem]) rfl ⟨((Below.refl _ _).alloc (Nat.le_refl _) _).alloc (by simp) _, _, _, _, rfl⟩
    · have c1' : ¬ (p2 : Int) < (s.size : Int) := by omega
      have c1d : decide (s.size ≤ p2) = true := decide_eq_true (by omega)
      rw [at_hpe s p2 61 _ rfl (by omega), if_neg (by simp)]
      go_enter Tryd.func46, Tryd.ntmps46
      go_wp2_with (first
        | (go_at_call 43; refine (CN.out _).mono ?_; rintro e w1 ⟨rfl, hw⟩; subst hw)
        | (go_at_call 44; refine (CB1.out _).mono ?_; rintro e w1 ⟨rfl, hw⟩; subst hw; clear CB1))
      exact bodyPost_ret (v := .tuple #[.agg #[.string ⟨#[]⟩, .string ⟨#[]⟩], .int .i64 0, .bool false]) (by simp [results, Tryd.results46, go_sem]) rfl ⟨((Below.refl _ _).alloc (Nat.le_refl _) _).alloc (by simp) _, _, _, _, rfl⟩
  · rw [if_neg hok]
    clear hnm hn hd1 hX CB CV hs hp' hl
    by_cases o1 : n < 1
    · have o1' : (n : Int) < 1 := by omega
      go_enter Tryd.func46, Tryd.ntmps46
      go_wp2_with (first
        | (go_at_call 43; refine (CN.out _).mono ?_; rintro e w1 ⟨rfl, hw⟩; subst hw))
      exact bodyPost_ret (v := .tuple #[.agg #[.string ⟨#[]⟩, .string ⟨#[]⟩], .int .i64 0, .bool false]) (by simp [results, Tryd.results46, go_sem]) rfl ⟨(Below.refl _ _).alloc (Nat.le_refl _) _, _, _, _, rfl⟩
    · have o1' : ¬ (n : Int) < 1 := by omega
      have o2' : (16 : Int) < (n : Int) := by omega
      go_enter Tryd.func46, Tryd.ntmps46
      go_wp2_with (first
        | (go_at_call 43; refine (CN.out _).mono ?_; rintro e w1 ⟨rfl, hw⟩; subst hw))
      exact bodyPost_ret (v := .tuple #[.agg #[.string ⟨#[]⟩, .string ⟨#[]⟩], .int .i64 0, .bool false]) (by simp [results, Tryd.results46, go_sem]) rfl ⟨(Below.refl _ _).alloc (Nat.le_refl _) _, _, _, _, rfl⟩
end Go.Proofs.YtpmdekhjodhdmaaDoor.K17
