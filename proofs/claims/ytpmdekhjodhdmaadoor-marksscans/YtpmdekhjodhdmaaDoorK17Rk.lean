/-
  The walk of the reference's tag.
-/
import Derived.Test.YtpmdekhjodhdmaaDoorK17Rj
import Derived.Test.YtpmdekhjodhdmaaDoorK17T
import Derived.Deep.RegionHeld3
namespace Go.Proofs.YtpmdekhjodhdmaaDoor.K17
open Go.RowKit Go.Proofs.YtpmdekhjodhdmaaDoor
open Go.Lib
set_option linter.unusedVariables false
set_option linter.unusedSimpArgs false
set_option maxRecDepth 100000

def RtR (w : World) (p n : Nat) (l : List UInt8) (R : Option (Int × List UInt8 × List At × List UInt8)) (e : Ending) (w' : World) : Prop := Below w.heap.size w w' ∧ match R with
  | some (k, x, ps, r) => ∃ v, e = .returned (.tuple #[.agg #[.int .i64 k, .string ⟨x.toArray⟩, .string ⟨#[]⟩, v, .int .i64 (p : Int)], .int .i64 ((n - r.length : Nat) : Int), .bool (!HC l r)]) ∧ ARow w' w.heap.size v ps
  | none => ∃ k1 x y a n c p1 k, e = .returned (.tuple #[.agg #[.int .i64 k1, .string x, .string y, .slice a n c, .int .i64 p1], .int .i64 k, .bool false])
/- tags that close, of no name -/
theorem rtag_cn (s : ByteArray) (p : Nat) (w : World) (hs : s.size ≤ 65536) (hp' : p + 1 < s.size) (h47 : s[p + 1] = 47) (hn : nm (s.data.toList.drop (p + 2)) = none) :
    Calls Tryd.prog 23 #[.string s, .int .i64 (p : Int)] w (RtR w p s.size (s.data.toList.drop p) none) := by
  have hs' : (s.size : Int) ≤ 65536 := by omega
  have CN := hide (fun w => rname_any s (p + 2) w (by omega) (by omega))
  have hnm := nmL_nm (s.data.toList.drop (p + 2))
  rw [hn] at hnm
  obtain ⟨n, hn1⟩ : ∃ n, nmL (s.data.toList.drop (p + 2)) = n := ⟨_, rfl⟩
  have hnl := (nmL_le (s.data.toList.drop (p + 2))).2
  rw [hn1] at CN hnm hnl
  obtain ⟨p1, hp1⟩ : ∃ p1, p + 1 = p1 := ⟨_, rfl⟩
  obtain ⟨p2, hp2⟩ : ∃ p2, p + 2 = p2 := ⟨_, rfl⟩
  rw [hp2] at CN
  have e1 : (p : Int) + 1 = (p1 : Int) := by omega
  have e2 : (p1 : Int) + 1 = (p2 : Int) := by omega
  have hlt : (p1 : Int) < (s.size : Int) := by omega
  have hlt' : p1 < s.size := by omega
  have f47 : ((s[p1].toNat : Int) == 47) = true := by subst hp1; rw [h47]; rfl
  have hok : (n < 1 ∨ 16 < n) := by
    by_cases h : 1 ≤ n ∧ n ≤ 16
    · rw [if_pos h] at hnm; simp at hnm
    · omega
  clear hnm hn hn1
  rcases hok with hok | hok
  · have o1 : (n : Int) < 1 := by omega
    go_enter Tryd.func23, Tryd.ntmps23
    go_wp2_with (first
      | (go_at_call 43; refine (CN.out _).mono ?_; rintro e w1 ⟨rfl, hw⟩; subst hw))
    exact bodyPost_ret (v := .tuple #[.agg #[.int .i64 2, .string ⟨#[]⟩, .string ⟨#[]⟩, .slice none 0 0, .int .i64 (p : Int)], .int .i64 0, .bool false]) (by simp [results, Tryd.results23, go_sem]) rfl ⟨((Below.refl _ _).alloc (Nat.le_refl _) _).alloc (by simp) _, _, _, _, _, _, _, _, _, rfl⟩
  · have o1 : ¬ (n : Int) < 1 := by omega
    have o2 : (16 : Int) < (n : Int) := by omega
    go_enter Tryd.func23, Tryd.ntmps23
    go_wp2_with (first
      | (go_at_call 43; refine (CN.out _).mono ?_; rintro e w1 ⟨rfl, hw⟩; subst hw))
    exact bodyPost_ret (v := .tuple #[.agg #[.int .i64 2, .string ⟨#[]⟩, .string ⟨#[]⟩, .slice none 0 0, .int .i64 (p : Int)], .int .i64 0, .bool false]) (by simp [results, Tryd.results23, go_sem]) rfl ⟨((Below.refl _ _).alloc (Nat.le_refl _) _).alloc (by simp) _, _, _, _, _, _, _, _, _, rfl⟩
/- tags that open, of no name -/
theorem rtag_on (s : ByteArray) (p : Nat) (w : World) (hs : s.size ≤ 65536) (hp' : p + 1 ≤ s.size) (h47 : hp [47] (s.data.toList.drop (p + 1)) = false) (hn : nm (s.data.toList.drop (p + 1)) = none) :
    Calls Tryd.prog 23 #[.string s, .int .i64 (p : Int)] w (RtR w p s.size (s.data.toList.drop p) none) := by
  have hs' : (s.size : Int) ≤ 65536 := by omega
  have CN := hide (fun w => rname_any s (p + 1) w (by omega) (by omega))
  have hnm := nmL_nm (s.data.toList.drop (p + 1))
  rw [hn] at hnm
  obtain ⟨n, hn1⟩ : ∃ n, nmL (s.data.toList.drop (p + 1)) = n := ⟨_, rfl⟩
  have hnl := (nmL_le (s.data.toList.drop (p + 1))).2
  rw [hn1] at CN hnm hnl
  obtain ⟨p1, hp1⟩ : ∃ p1, p + 1 = p1 := ⟨_, rfl⟩
  rw [hp1] at CN
  have e1 : (p : Int) + 1 = (p1 : Int) := by omega
  have hok : (n < 1 ∨ 16 < n) := by
    by_cases h : 1 ≤ n ∧ n ≤ 16
    · rw [if_pos h] at hnm; simp at hnm
    · omega
  clear hnm hn hn1
  rw [hp1] at h47
  by_cases hl1 : p1 < s.size
  · have hlt : (p1 : Int) < (s.size : Int) := by omega
    have f47 : ((s[p1].toNat : Int) == 47) = false := by
      rw [at_hp s p1 47 _ rfl hl1] at h47
      rw [beq_eq_false_iff_ne] at h47 ⊢
      intro h; apply h47; apply UInt8.toNat_inj.1; show s[p1].toNat = 47; omega
    clear h47
    rcases hok with hok | hok
    · have o1 : (n : Int) < 1 := by omega
      go_enter Tryd.func23, Tryd.ntmps23
      go_wp2_with (first
        | (go_at_call 43; refine (CN.out _).mono ?_; rintro e w1 ⟨rfl, hw⟩; subst hw))
      exact bodyPost_ret (v := .tuple #[.agg #[.int .i64 1, .string ⟨#[]⟩, .string ⟨#[]⟩, .slice none 0 0, .int .i64 (p : Int)], .int .i64 0, .bool false]) (by simp [results, Tryd.results23, go_sem]) rfl ⟨((Below.refl _ _).alloc (Nat.le_refl _) _).alloc (by simp) _, _, _, _, _, _, _, _, _, rfl⟩
    · have o1 : ¬ (n : Int) < 1 := by omega
      have o2 : (16 : Int) < (n : Int) := by omega
      go_enter Tryd.func23, Tryd.ntmps23
      go_wp2_with (first
        | (go_at_call 43; refine (CN.out _).mono ?_; rintro e w1 ⟨rfl, hw⟩; subst hw))
      exact bodyPost_ret (v := .tuple #[.agg #[.int .i64 1, .string ⟨#[]⟩, .string ⟨#[]⟩, .slice none 0 0, .int .i64 (p : Int)], .int .i64 0, .bool false]) (by simp [results, Tryd.results23, go_sem]) rfl ⟨((Below.refl _ _).alloc (Nat.le_refl _) _).alloc (by simp) _, _, _, _, _, _, _, _, _, rfl⟩
  · have hlt : ¬ (p1 : Int) < (s.size : Int) := by omega
    clear h47
    rcases hok with hok | hok
    · have o1 : (n : Int) < 1 := by omega
      go_enter Tryd.func23, Tryd.ntmps23
      go_wp2_with (first
        | (go_at_call 43; refine (CN.out _).mono ?_; rintro e w1 ⟨rfl, hw⟩; subst hw))
      exact bodyPost_ret (v := .tuple #[.agg #[.int .i64 1, .string ⟨#[]⟩, .string ⟨#[]⟩, .slice none 0 0, .int .i64 (p : Int)], .int .i64 0, .bool false]) (by simp [results, Tryd.results23, go_sem]) rfl ⟨((Below.refl _ _).alloc (Nat.le_refl _) _).alloc (by simp) _, _, _, _, _, _, _, _, _, rfl⟩
    · have o1 : ¬ (n : Int) < 1 := by omega
      have o2 : (16 : Int) < (n : Int) := by omega
      go_enter Tryd.func23, Tryd.ntmps23
      go_wp2_with (first
        | (go_at_call 43; refine (CN.out _).mono ?_; rintro e w1 ⟨rfl, hw⟩; subst hw))
      exact bodyPost_ret (v := .tuple #[.agg #[.int .i64 1, .string ⟨#[]⟩, .string ⟨#[]⟩, .slice none 0 0, .int .i64 (p : Int)], .int .i64 0, .bool false]) (by simp [results, Tryd.results23, go_sem]) rfl ⟨((Below.refl _ _).alloc (Nat.le_refl _) _).alloc (by simp) _, _, _, _, _, _, _, _, _, rfl⟩
theorem bdr {w : World} {b : Nat} {cs : Array Value} {t : TypeId} (h : Blk w b cs t) : Blk w.drew b cs t := h
theorem below_d {V a b x : World} (h : Below V.heap.size V a) (hx : Below b.heap.size b x) (e0 : b.os = a.os) (e1 : b.tape = a.tape) (e2 : b.output = a.output) (e3 : b.heap = a.heap) : Below V.heap.size V x :=
  ⟨hx.os.trans (e0.trans h.os), hx.tape.trans (e1.trans h.tape), hx.output.trans (e2.trans h.output), Nat.le_trans h.size (by rw [← e3]; exact hx.size), fun k hk => by
    rw [hx.block k (by rw [e3]; exact Nat.lt_of_lt_of_le hk h.size), e3]; exact h.block k hk⟩
theorem two_tk (w : World) (cs : Array Value) : Blk ((w.alloc (.cells #[.int .i64 0, .string ⟨#[]⟩, .string ⟨#[]⟩, .slice none 0 0, .int .i64 0] 45)).alloc (.cells cs 45)) w.heap.size #[.int .i64 0, .string ⟨#[]⟩, .string ⟨#[]⟩, .slice none 0 0, .int .i64 0] 45 ∧ Blk ((w.alloc (.cells #[.int .i64 0, .string ⟨#[]⟩, .string ⟨#[]⟩, .slice none 0 0, .int .i64 0] 45)).alloc (.cells cs 45)) (w.heap.size + 1) cs 45 ∧ Below w.heap.size w ((w.alloc (.cells #[.int .i64 0, .string ⟨#[]⟩, .string ⟨#[]⟩, .slice none 0 0, .int .i64 0] 45)).alloc (.cells cs 45)) := by
  have b1 := Blk.new (w.alloc (.cells #[.int .i64 0, .string ⟨#[]⟩, .string ⟨#[]⟩, .slice none 0 0, .int .i64 0] 45)) cs 45
  rw [show (w.alloc (.cells #[.int .i64 0, .string ⟨#[]⟩, .string ⟨#[]⟩, .slice none 0 0, .int .i64 0] 45)).heap.size = w.heap.size + 1 by simp] at b1
  exact ⟨(Blk.new w _ _).below ((Below.refl _ _).alloc (Nat.le_refl _) _), b1, ((Below.refl _ _).alloc (Nat.le_refl _) _).alloc (by simp) _⟩
theorem tk_end {w W : World} {x0 x1 x2 x3 x4 : Value} {t : TypeId} (h : Blk W w.heap.size #[x0, x1, x2, x3, x4] t) (hb : Below w.heap.size w W) (v0 v1 v2 v3 v4 : Value) :
    Below w.heap.size w (st5 W w.heap.size v0 v1 v2 v3 v4) ∧ (st5 W w.heap.size v0 v1 v2 v3 v4).cell? ⟨w.heap.size, 0, none⟩ = some v0 ∧ (st5 W w.heap.size v0 v1 v2 v3 v4).cell? ⟨w.heap.size, 1, none⟩ = some v1 ∧ (st5 W w.heap.size v0 v1 v2 v3 v4).cell? ⟨w.heap.size, 2, none⟩ = some v2 ∧ (st5 W w.heap.size v0 v1 v2 v3 v4).cell? ⟨w.heap.size, 3, none⟩ = some v3 ∧ (st5 W w.heap.size v0 v1 v2 v3 v4).cell? ⟨w.heap.size, 4, none⟩ = some v4 := by
  have k := set5 h v0 v1 v2 v3 v4
  exact ⟨below5 hb (Nat.le_refl _) v0 v1 v2 v3 v4, by simpa using k.cell 0, by simpa using k.cell 1, by simpa using k.cell 2, by simpa using k.cell 3, by simpa using k.cell 4⟩
set_option maxHeartbeats 2000000 in
/- tags that close, of a name -/
theorem rtag_cs (s : ByteArray) (p : Nat) (w : World) (x l1 : List UInt8) (hs : s.size ≤ 65536) (hp' : p + 1 < s.size) (h47 : s[p + 1] = 47) (hn : nm (s.data.toList.drop (p + 2)) = some (x, l1)) (hv : Vt (s.data.toList.drop p)) :
    Calls Tryd.prog 23 #[.string s, .int .i64 (p : Int)] w (RtR w p s.size (s.data.toList.drop p) (if hp [62] (bk l1) then some (2, x, [], tp [62] (bk l1)) else none)) := by
  have hs' : (s.size : Int) ≤ 65536 := by omega
  have CN := hide (fun w => rname_any s (p + 2) w (by omega) (by omega))
  have CB := hide (fun n w h => rblanks_any s n w (by omega) h)
  have CC := hide (fun a b w h1 h2 h3 => rcontrols_any s a b w hs h1 h2 h3)
  have hnm := nmL_nm (s.data.toList.drop (p + 2))
  rw [hn] at hnm
  obtain ⟨n, hn1⟩ : ∃ n, nmL (s.data.toList.drop (p + 2)) = n := ⟨_, rfl⟩
  have hnl := nmL_le (s.data.toList.drop (p + 2))
  rw [List.length_drop, size_l] at hnl
  rw [hn1] at CN hnm hnl
  obtain ⟨p1, hp1⟩ : ∃ p1, p + 1 = p1 := ⟨_, rfl⟩
  obtain ⟨p2, hp2⟩ : ∃ p2, p + 2 = p2 := ⟨_, rfl⟩
  rw [hp2] at CN hnm hnl
  have e1 : (p : Int) + 1 = (p1 : Int) := by omega
  have e2 : (p1 : Int) + 1 = (p2 : Int) := by omega
  have hlt : (p1 : Int) < (s.size : Int) := by omega
  have hlt' : p1 < s.size := by omega
  have f47 : ((s[p1].toNat : Int) == 47) = true := by subst hp1; rw [h47]; rfl
  have hok : 1 ≤ n ∧ n ≤ 16 := by
    by_cases h : 1 ≤ n ∧ n ≤ 16
    · exact h
    · rw [if_neg h] at hnm; simp at hnm
  rw [if_pos hok] at hnm
  simp only [Option.some.injEq, Prod.mk.injEq] at hnm
  obtain ⟨hx, hl1⟩ := hnm
  obtain ⟨p3, hp3⟩ : ∃ p3, p2 + n = p3 := ⟨_, rfl⟩
  have e3 : (p2 : Int) + (n : Int) = (p3 : Int) := by omega
  rw [List.drop_drop, hp3] at hl1
  have o1 : ¬ (n : Int) < 1 := by omega
  have o2 : ¬ (16 : Int) < (n : Int) := by omega
  have o3 : (p2 : Int) ≤ (p3 : Int) := by omega
  have o4 : (p3 : Int) ≤ (s.size : Int) := by omega
  have o5 : (0 : Int) ≤ (p2 : Int) := by omega
  have hX : s.extract p2 p3 = ⟨x.toArray⟩ := by rw [str_eq, Lib.extract_data, mk_l, hx]; congr 1; omega
  obtain ⟨X, hXX⟩ : ∃ X : ByteArray, (⟨x.toArray⟩ : ByteArray) = X := ⟨_, rfl⟩
  rw [hXX] at hX
  have HX := hide hXX
  have CB3 := hide (fun w => CB.out p3 w (by omega))
  obtain ⟨g1, g2, g3⟩ := bkP_le s.data.toList p3 (by rw [size_l]; omega)
  obtain ⟨p4, hp4⟩ : ∃ p4, bkP s.data.toList p3 = p4 := ⟨_, rfl⟩
  rw [hp4] at g1 g2 g3 CB3
  rw [size_l] at g2
  rw [← hl1] at g3
  rw [← g3]
  have g2' : (p4 : Int) ≤ (s.size : Int) := by omega
  have HV := hide hv
  have HG := hide (And.intro hn (And.intro g3 (And.intro hl1 g1)))
  obtain ⟨R0, hR0⟩ : ∃ R0, (if hp [62] (s.data.toList.drop p4) = true then some ((2 : Int), x, ([] : List At), tp [62] (s.data.toList.drop p4)) else none) = R0 := ⟨_, rfl⟩
  rw [hR0]
  have HR0 := hide hR0
  obtain ⟨W0, W1, WB⟩ := two_tk w #[.int .i64 2, .string X, .string ⟨#[]⟩, .slice none 0 0, .int .i64 (p : Int)]
  have WS : ((w.alloc (.cells #[.int .i64 0, .string ⟨#[]⟩, .string ⟨#[]⟩, .slice none 0 0, .int .i64 0] 45)).alloc (.cells #[.int .i64 2, .string X, .string ⟨#[]⟩, .slice none 0 0, .int .i64 (p : Int)] 45)).heap.size = w.heap.size + 2 := by simp
  clear hn hn1 hx hl1 g3 hp4 CB hv hXX hR0 hp1 hp2 hp3 h47 hp' hs
  go_enter Tryd.func23, Tryd.ntmps23
  go_wp2_with (first
    | (go_at_call 43; refine (CN.out _).mono ?_; rintro e w1 ⟨rfl, hw⟩; subst hw))
  generalize ((w.alloc (.cells #[.int .i64 0, .string ⟨#[]⟩, .string ⟨#[]⟩, .slice none 0 0, .int .i64 0] 45)).alloc (.cells #[.int .i64 2, .string X, .string ⟨#[]⟩, .slice none 0 0, .int .i64 (p : Int)] 45)) = W at W0 W1 WB WS ⊢
  go_loopw [1] (fun va wr => va = .int .i64 (p3 : Int) ∧ wr = W) (fun va _ => 0)
  case atStart => exact ⟨rfl, rfl⟩
  case round =>
    obtain ⟨rfl, rfl⟩ := hrel
    have A0 := W1.cell 0; have A1 := W1.cell 1; have A2 := W1.cell 2; have A3 := W1.cell 3; have A4 := W1.cell 4
    simp at A0 A1 A2 A3 A4
    have F0 := W0.frozen 0; have F1 := W0.frozen 1; have F2 := W0.frozen 2; have F3 := W0.frozen 3; have F4 := W0.frozen 4
    have Z0 := W0.cell 0; have Z1 := W0.cell 1; have Z2 := W0.cell 2; have Z3 := W0.cell 3; have Z4 := W0.cell 4
    simp at Z0 Z1 Z2 Z3 Z4
    have HW0 := hide W0
    have HW1 := hide W1
    have HWB := hide WB
    clear W0 W1 WB
    by_cases c4 : p4 < s.size
    · have c4' : (p4 : Int) < (s.size : Int) := by omega
      have c4d : decide (s.size ≤ p4) = false := decide_eq_false (by omega)
      by_cases e62 : s[p4] = 62
      · obtain ⟨H, hH⟩ : ∃ H, hc ((s.data.toList.drop p).take (p4 - p)) = H := ⟨_, rfl⟩
        have hg := HG.out.2.2.2
        have h62 : (s.data.toList.drop p)[p4 - p]? = some 62 := by
          rw [List.getElem?_drop, show p + (p4 - p) = p4 by omega, List.getElem?_eq_getElem (by rw [size_l]; exact c4)]
          exact congrArg some e62
        have hvt := (HV.out.cut (p4 - p) (fun b hb => by rw [h62] at hb; injection hb with hb; rw [← hb]; decide)).1
        have CX := fun w => CC.out p p4 w (by omega) (by omega) hvt
        rw [hH] at CX
        have CCX := hide CX
        have hT := at_tp s p4 62 _ rfl (by rw [at_hp s p4 62 _ rfl c4, e62]; rfl)
        have hr := HR0.out
        rw [at_hp s p4 62 _ rfl c4, if_pos (by rw [e62]; rfl), ← hT] at hr
        subst hr
        have HHC : Hid (HC (s.data.toList.drop p) (s.data.toList.drop (p4 + 1)) = H) := hide (by
          unfold HC
          rw [List.length_drop, List.length_drop, size_l, show s.size - p - (s.size - (p4 + 1)) = (p4 - p) + 1 by omega, List.take_add_one, h62, hc_app hvt, hH]
          show (H || hc [62]) = H
          rw [show hc [62] = false by decide, Bool.or_false])
        have f62 : ((s[p4].toNat : Int) == 62) = true := by rw [e62]; rfl
        obtain ⟨p5, hp5⟩ : ∃ p5, p4 + 1 = p5 := ⟨_, rfl⟩
        have e5 : (p4 : Int) + 1 = (p5 : Int) := by omega
        have e6 : IntKind.i64.wrap (p5 : Int) = (p5 : Int) := by rw [IntKind.wrap_i64]; omega
        have e5' : IntKind.i64.wrap ((p4 : Int) + 1) = (p5 : Int) := by rw [IntKind.wrap_i64]; omega
        have HVV := hide (Below.refl wr.heap.size wr)
        have KT := hide (show ∀ u, Below wr.heap.size wr u → (u.cell? ⟨w.heap.size + 1, 0, none⟩ = some (.int .i64 2) ∧ u.cell? ⟨w.heap.size + 1, 1, none⟩ = some (.string X) ∧ u.cell? ⟨w.heap.size + 1, 2, none⟩ = some (.string ⟨#[]⟩) ∧ u.cell? ⟨w.heap.size + 1, 3, none⟩ = some (.slice none 0 0) ∧ u.cell? ⟨w.heap.size + 1, 4, none⟩ = some (.int .i64 (p : Int)) ∧ u.cell? ⟨w.heap.size, 0, none⟩ = some (.int .i64 0) ∧ u.cell? ⟨w.heap.size, 1, none⟩ = some (.string ⟨#[]⟩) ∧ u.cell? ⟨w.heap.size, 2, none⟩ = some (.string ⟨#[]⟩) ∧ u.cell? ⟨w.heap.size, 3, none⟩ = some (.slice none 0 0) ∧ u.cell? ⟨w.heap.size, 4, none⟩ = some (.int .i64 0) ∧ u.frozen? ⟨w.heap.size, 0, none⟩ = false ∧ u.frozen? ⟨w.heap.size, 1, none⟩ = false ∧ u.frozen? ⟨w.heap.size, 2, none⟩ = false ∧ u.frozen? ⟨w.heap.size, 3, none⟩ = false ∧ u.frozen? ⟨w.heap.size, 4, none⟩ = false) from fun u hu => by
          have k0 := HW0.out.below hu
          have k1 := HW1.out.below hu
          exact ⟨by simpa using k1.cell 0, by simpa using k1.cell 1, by simpa using k1.cell 2, by simpa using k1.cell 3, by simpa using k1.cell 4, by simpa using k0.cell 0, by simpa using k0.cell 1, by simpa using k0.cell 2, by simpa using k0.cell 3, by simpa using k0.cell 4, k0.frozen 0, k0.frozen 1, k0.frozen 2, k0.frozen 3, k0.frozen 4⟩)
        clear hT CX hvt h62 hg hH HR0 e62 CC
        go_upto_region 16 with (first
          | (go_at_call 44; refine (CB3.out _).mono ?_; rintro e w1 ⟨rfl, hw⟩; subst hw))
        have KB := hide (show ∀ u, Blk u (w.heap.size + 1) #[.int .i64 2, .string X, .string ⟨#[]⟩, .slice none 0 0, .int .i64 (p : Int)] 45 → (u.cell? ⟨w.heap.size + 1, 0, none⟩ = some (.int .i64 2) ∧ u.cell? ⟨w.heap.size + 1, 1, none⟩ = some (.string X) ∧ u.cell? ⟨w.heap.size + 1, 2, none⟩ = some (.string ⟨#[]⟩) ∧ u.cell? ⟨w.heap.size + 1, 3, none⟩ = some (.slice none 0 0) ∧ u.cell? ⟨w.heap.size + 1, 4, none⟩ = some (.int .i64 (p : Int))) from fun u k1 => ⟨by simpa using k1.cell 0, by simpa using k1.cell 1, by simpa using k1.cell 2, by simpa using k1.cell 3, by simpa using k1.cell 4⟩)
        have NE := hide (show w.heap.size + 1 ≠ w.heap.size by omega)
        go_region_held3 (fun u => u.cell? ⟨w.heap.size + 1, 0, none⟩ = some (.int .i64 2) ∧ u.cell? ⟨w.heap.size + 1, 1, none⟩ = some (.string X) ∧ u.cell? ⟨w.heap.size + 1, 2, none⟩ = some (.string ⟨#[]⟩) ∧ u.cell? ⟨w.heap.size + 1, 3, none⟩ = some (.slice none 0 0) ∧ u.cell? ⟨w.heap.size + 1, 4, none⟩ = some (.int .i64 (p : Int))) (exact KB.out _ (by repeat (first | (with_reducible exact K1.out) | (with_reducible exact HW1.out) | (with_reducible refine Blk.other ?_ NE.out _ _) | (with_reducible refine bdr ?_)))) ((go_at_call 45; refine (CCX.out _).mono ?_; rintro e wy ⟨rfl, hy⟩; replace HVV := hide (below_d HVV.out hy rfl rfl rfl rfl); clear hy; have k1 := HW1.out.below HVV.out; have k0 := HW0.out.below HVV.out; have a0 := k1.cell 0; have a1 := k1.cell 1; have a2 := k1.cell 2; have a3 := k1.cell 3; have a4 := k1.cell 4; have z0 := k0.cell 0; have z1 := k0.cell 1; have z2 := k0.cell 2; have z3 := k0.cell 3; have z4 := k0.cell 4; simp at a0 a1 a2 a3 a4 z0 z1 z2 z3 z4; have f0 := k0.frozen 0; have f1 := k0.frozen 1; have f2 := k0.frozen 2; have f3 := k0.frozen 3; have f4 := k0.frozen 4; have K1 := hide k1; clear k0 k1))
        go_wp2_with fail
        obtain ⟨FB, G0, G1, G2, G3, G4⟩ := tk_end (HW0.out.below HVV.out) (HWB.out.trans (HVV.out.mono HWB.out.size)) (.int .i64 2) (.string X) (.string ⟨#[]⟩) (.slice none 0 0) (.int .i64 (p : Int))
        unfold st5 at FB G0 G1 G2 G3 G4
        generalize (((((wy.setCell ⟨w.heap.size, 0, none⟩ (.int .i64 2)).setCell ⟨w.heap.size, 1, none⟩ (.string X)).setCell ⟨w.heap.size, 2, none⟩ (.string ⟨#[]⟩)).setCell ⟨w.heap.size, 3, none⟩ (.slice none 0 0)).setCell ⟨w.heap.size, 4, none⟩ (.int .i64 (p : Int))) = wf at FB G0 G1 G2 G3 G4 ⊢
        have HN : Hid (((p5 : Nat) : Int) = ((s.size - (s.data.toList.drop (p4 + 1)).length : Nat) : Int)) := hide (by rw [List.length_drop, size_l]; omega)
        exact bodyPost_ret (v := .tuple #[.agg #[.int .i64 2, .string X, .string ⟨#[]⟩, .slice none 0 0, .int .i64 (p : Int)], .int .i64 (p5 : Int), .bool (!H)]) (by simp [results, Tryd.results23, go_sem, G0, G1, G2, G3, G4, e6]) rfl ⟨FB, .slice none 0 0, by rw [HHC.out, HX.out, HN.out], ARow.nil _ _⟩
      · have f62 : ((s[p4].toNat : Int) == 62) = false := by
          rw [beq_eq_false_iff_ne]; intro h; apply e62; apply UInt8.toNat_inj.1; show s[p4].toNat = 62; omega
        have hr := HR0.out
        rw [at_hp s p4 62 _ rfl c4, if_neg (by rw [beq_iff_eq]; exact e62)] at hr
        subst hr
        clear HR0 e62
        go_wp2_with (first
          | (go_at_call 44; refine (CB3.out _).mono ?_; rintro e w1 ⟨rfl, hw⟩; subst hw))
        obtain ⟨FB, G0, G1, G2, G3, G4⟩ := tk_end HW0.out HWB.out (.int .i64 2) (.string X) (.string ⟨#[]⟩) (.slice none 0 0) (.int .i64 (p : Int))
        unfold st5 at FB G0 G1 G2 G3 G4
        exact bodyPost_ret (v := .tuple #[.agg #[.int .i64 2, .string X, .string ⟨#[]⟩, .slice none 0 0, .int .i64 (p : Int)], .int .i64 0, .bool false]) (by simp [results, Tryd.results23, go_sem, G0, G1, G2, G3, G4]) rfl ⟨FB, _, _, _, _, _, _, _, _, rfl⟩
    · have c4' : ¬ (p4 : Int) < (s.size : Int) := by omega
      have c4d : decide (s.size ≤ p4) = true := decide_eq_true (by omega)
      have hr := HR0.out
      rw [at_hpe s p4 62 _ rfl (by omega), if_neg (by simp)] at hr
      subst hr
      clear HR0
      go_wp2_with (first
        | (go_at_call 44; refine (CB3.out _).mono ?_; rintro e w1 ⟨rfl, hw⟩; subst hw))
      obtain ⟨FB, G0, G1, G2, G3, G4⟩ := tk_end HW0.out HWB.out (.int .i64 2) (.string X) (.string ⟨#[]⟩) (.slice none 0 0) (.int .i64 (p : Int))
      unfold st5 at FB G0 G1 G2 G3 G4
      exact bodyPost_ret (v := .tuple #[.agg #[.int .i64 2, .string X, .string ⟨#[]⟩, .slice none 0 0, .int .i64 (p : Int)], .int .i64 0, .bool false]) (by simp [results, Tryd.results23, go_sem, G0, G1, G2, G3, G4]) rfl ⟨FB, _, _, _, _, _, _, _, _, rfl⟩
end Go.Proofs.YtpmdekhjodhdmaaDoor.K17
