/-
  What digits.Text answers.
-/
import Derived.Test.YthhhepbflggojaaDoorE2Frac
import Derived.Test.YthhhepbflggojaaDoorInL
import Derived.Test.YthhhepbflggojaaDoorShelf
namespace Go.Proofs.YthhhepbflggojaaDoor.D2
set_option maxRecDepth 8000
open Go.RowKit Go.Lib

/- what the library's variables hold -/
structure Glo (w : World) : Prop where
  tab : TabIs Tryd.prog w "internal/strconv.uint64pow10" .u64 pow10Tab
theorem cell_lt {w : World} {p : Addr} {v : Value} (h : w.cell? p = some v) : p.block < w.heap.size := by
  rcases Nat.lt_or_ge p.block w.heap.size with h1 | h1
  · exact h1
  · exfalso
    have : w.heap[p.block]? = none := Array.getElem?_eq_none h1
    unfold World.cell? at h
    simp [this] at h
theorem Glo.below {w w' : World} (h : Glo w) (hb : Below w.heap.size w w') : Glo w' := ⟨tabBelow_of_tabIs h.tab w' hb⟩

def textL (x : Int) : List UInt8 := (if x < 0 then [45] else []) ++ decDigits (x.natAbs / 65536) ++ frac (x.natAbs % 65536)
theorem own_shape {w : World} {B n : Nat} {v : Value} {ys : List UInt8} (h : w.ownsRow B 5 1 v n (ys.map bcell)) (hne : 0 < n) :
    ∃ g cap, v = .slice (some ⟨g, 0, none⟩) n cap ∧ OwnB w B g n cap ys := by
  have h' := h
  obtain ⟨_, ⟨h0, h1⟩ | ⟨g, cap, cur, hv, _⟩⟩ := h'
  · omega
  · rw [hv] at h; exact ⟨g, cap, hv, h⟩
theorem itoa_nat (q : Nat) : itoa (q : Int) = decDigits q := by unfold itoa; rw [if_neg (by omega)]; rfl
theorem nDigits_le (k u : Nat) (h : u < 10 ^ (k + 1)) : nDigits u ≤ k + 1 := by
  induction k generalizing u with
  | zero => rw [nDigits_small (by simpa using h)]; omega
  | succ k ih =>
    by_cases h0 : u < 10
    · rw [nDigits_small h0]; omega
    · rw [nDigits_big h0]
      have := ih (u / 10) (by rw [Nat.pow_succ] at h; omega)
      omega
theorem dec_len (q : Nat) (h : q ≤ 16777216) : (decDigits q).length ≤ 8 ∧ 0 < (decDigits q).length := by
  rw [decDigits_length]
  exact ⟨nDigits_le 7 q (by omega), nDigits_pos q⟩

theorem text_out (x : Int) (w : World) (h : inB x = false) :
    Calls Tryd.prog 55 #[.int .i64 x] w fun e w' => e = .returned (.tuple #[.string ⟨#[]⟩, .bool false]) ∧ w' = w := by
  go_enter Tryd.func55, Tryd.ntmps55
  go_wp2_with (go_at_call 40; refine (in_any _ _).mono ?_; rintro e w' ⟨rfl, rfl⟩)
  go_ret2
  exact ⟨rfl, rfl⟩

set_option maxHeartbeats 1000000 in
theorem text_pos (a Q M : Nat) (w : World) (hg : Glo w) (h : inB (a : Int) = true) (hQ : a / 65536 = Q) (hM : a % 65536 = M) (L : List UInt8) (hL : decDigits Q ++ frac M = L) :
    Calls Tryd.prog 55 #[.int .i64 a] w fun e w' => e = .returned (.tuple #[.string ⟨L.toArray⟩, .bool true]) ∧ Below w.heap.size w w' := by
  have hb := inB_bd h
  have HA : Hid (∀ sv w1 n xs, w1.ownsRow w.heap.size 5 1 sv n xs → n ≤ 1 → Below w.heap.size w w1 → Calls Tryd.prog 60 #[sv, .int .i64 Q, .int .i64 10] w1 fun e w' => ∃ v', e = .returned v' ∧ w'.ownsRow w.heap.size 5 1 v' (n + (decDigits Q).length) (xs ++ (decDigits Q).map bcell) ∧ Below w.heap.size w1 w') := by
    intro sv w1 n xs h1 h2 h3
    have := Any.strconv_AppendInt_10 laysM176 w.heap.size n (Q : Int) (by omega) (by omega) sv xs w1 h1 h3.size (by omega) ((tabBelow_of_tabIs hg.tab).on h3)
    rw [itoa_nat] at this
    refine this.mono ?_
    rintro e w' ⟨v', h1, h2, h3, _⟩
    exact ⟨v', h1, h2, h3⟩
  have HD := hide (dec_len Q (by omega))
  have HM := hide (show M < 65536 by omega)
  have HL := hide hL
  have e1 : (a : Int) / 65536 = (Q : Int) := by omega
  have e2 : (a : Int) % 65536 = (M : Int) := by omega
  have b1 : (a : Int) ≤ 1099511627776 := by omega
  clear hg hb hQ hM hL
  go_enter Tryd.func55, Tryd.ntmps55
  go_wp2_with (go_at_call 40; refine (in_any _ _).mono ?_; rintro e w' ⟨rfl, rfl⟩)
  refine (HA.out _ _ _ _ (World.ownsRow_nil _ _ _ _) (by omega) (Below.refl _ _)).mono ?_
  rintro e w1 ⟨v1, rfl, hown1, hb1⟩
  simp only [Nat.zero_add, List.nil_append] at hown1
  have HO := hide hown1
  have HB := hide (hb1 : Below w'.heap.size w' w1)
  clear hown1 hb1
  go_wp2_with fail
  refine (fraction_any w'.heap.size _ M v1 _ w1 HM.out HO.out HB.out.size (by have := HD.out; omega)).mono ?_
  rintro e w2 ⟨v2, rfl, hown2, hb2⟩
  obtain ⟨g, cap, rfl, hO⟩ := own_shape (ys := decDigits Q ++ frac M) (by simpa using hown2) (by have := HD.out; omega)
  have hcv := hO.text (by simp)
  have HB2 := hide (HB.out.trans hb2)
  clear hown2 hb2 hO
  go_wp2
  go_ret2
  exact ⟨by rw [← HL.out]; simp, HB2.out⟩
set_option maxHeartbeats 1000000 in
theorem text_neg (a Q M : Nat) (w : World) (hg : Glo w) (h : inB (-(a : Int)) = true) (h0 : 0 < a) (hQ : a / 65536 = Q) (hM : a % 65536 = M) (L : List UInt8) (hL : 45 :: (decDigits Q ++ frac M) = L) :
    Calls Tryd.prog 55 #[.int .i64 (-(a : Int))] w fun e w' => e = .returned (.tuple #[.string ⟨L.toArray⟩, .bool true]) ∧ Below w.heap.size w w' := by
  have hb := inB_bd h
  have HA : Hid (∀ sv w1 n xs, w1.ownsRow w.heap.size 5 1 sv n xs → n ≤ 1 → Below w.heap.size w w1 → Calls Tryd.prog 60 #[sv, .int .i64 Q, .int .i64 10] w1 fun e w' => ∃ v', e = .returned v' ∧ w'.ownsRow w.heap.size 5 1 v' (n + (decDigits Q).length) (xs ++ (decDigits Q).map bcell) ∧ Below w.heap.size w1 w') := by
    intro sv w1 n xs h1 h2 h3
    have := Any.strconv_AppendInt_10 laysM176 w.heap.size n (Q : Int) (by omega) (by omega) sv xs w1 h1 h3.size (by omega) ((tabBelow_of_tabIs hg.tab).on h3)
    rw [itoa_nat] at this
    refine this.mono ?_
    rintro e w' ⟨v', h1, h2, h3, _⟩
    exact ⟨v', h1, h2, h3⟩
  have HD := hide (dec_len Q (by omega))
  have HM := hide (show M < 65536 by omega)
  have HL := hide hL
  have h0' : (0 : Int) < (a : Int) := by omega
  have hneg : -(a : Int) < 0 := by omega
  obtain ⟨i0, hi, hz0, hz1, hz2⟩ := info_parts info_u8
  have HI := hide hi
  have HI0 := hide hz0
  have HI1 := hide hz1
  have HI2 := hide hz2
  clear hi hz0 hz1 hz2 h0
  have e1 : (a : Int) / 65536 = (Q : Int) := by omega
  have e2 : (a : Int) % 65536 = (M : Int) := by omega
  have b1 : (a : Int) ≤ 1099511627776 := by omega
  clear hg hb hQ hM hL
  go_enter Tryd.func55, Tryd.ntmps55
  go_wp2_with (first | (go_at_call 40; refine (in_any _ _).mono ?_; rintro e w' ⟨rfl, rfl⟩) | (at_builtin; refine wpList_append_own _ rfl _ _ 43 rfl w'.heap.size 5 i0 (.int .u8 0) 1 1 Tryd.underlying43 HI.out HI0.out HI1.out HI2.out rfl (by decide) _ 0 [] rfl (World.ownsRow_nil _ _ _ _) ⟨w'.heap.size, 0, none⟩ 1 1 [.int .u8 45] rfl rfl ?c1 ?c2 ?c3 ?c4 ?c5 ?_))
  case c1 =>
    intro j u hj
    match j, hj with
    | 0, hj => simp at hj; subst hj; simp [Addr.add]
  case c2 => intro u hu; simp at hu; subst hu; rfl
  case c3 => unfold maxLen; omega
  case c4 => omega
  case c5 => simp
  intro v0 w0 hown0 hgrow0 _
  have HB0 := hide (show Below w'.heap.size w' w0 from ((Below.refl _ _).alloc (Nat.le_refl _) _).grown hgrow0 (by simp) (fun k hk => by simp [Value.ownBlock] at hk))
  have HO0 := hide (show w0.ownsRow w'.heap.size 5 1 v0 1 (([45] : List UInt8).map bcell) from hown0)
  clear hown0 hgrow0
  go_wp2_with fail
  refine (HA.out _ _ _ _ HO0.out (by omega) HB0.out).mono ?_
  rintro e w1 ⟨v1, rfl, hown1, hb1⟩
  have HO := hide hown1
  have HB := hide (HB0.out.trans hb1 : Below w'.heap.size w' w1)
  clear hown1 hb1
  go_wp2_with fail
  refine (fraction_any w'.heap.size _ M v1 _ w1 HM.out HO.out HB.out.size (by have := HD.out; omega)).mono ?_
  rintro e w2 ⟨v2, rfl, hown2, hb2⟩
  obtain ⟨g, cap, rfl, hO⟩ := own_shape (ys := 45 :: (decDigits Q ++ frac M)) (by simpa using hown2) (by have := HD.out; omega)
  have hcv := hO.text (by simp; omega)
  have HB2 := hide (HB.out.trans hb2)
  clear hown2 hb2 hO
  go_wp2
  go_ret2
  exact ⟨by rw [← HL.out]; simp, HB2.out⟩

/- any number -/
def textV (x : Int) : Value := if inB x then .tuple #[.string ⟨(textL x).toArray⟩, .bool true] else .tuple #[.string ⟨#[]⟩, .bool false]
theorem text_any (x : Int) (w : World) (hg : Glo w) :
    Calls Tryd.prog 55 #[.int .i64 x] w fun e w' => e = .returned (textV x) ∧ Below w.heap.size w w' := by
  unfold textV
  cases h : inB x
  · refine (text_out x w h).mono ?_
    rintro e w' ⟨rfl, rfl⟩
    exact ⟨rfl, Below.refl _ _⟩
  · rw [if_pos rfl]
    by_cases h0 : x < 0
    · obtain ⟨a, rfl⟩ : ∃ a : Nat, x = -(a : Int) := ⟨x.natAbs, by omega⟩
      refine text_neg a _ _ w hg h (by omega) rfl rfl _ ?_
      unfold textL
      rw [if_pos h0, Int.natAbs_neg, Int.natAbs_natCast]
      rfl
    · obtain ⟨a, rfl⟩ : ∃ a : Nat, x = (a : Int) := ⟨x.natAbs, by omega⟩
      refine text_pos a _ _ w hg h rfl rfl _ ?_
      unfold textL
      rw [if_neg h0, Int.natAbs_natCast]
      rfl
end Go.Proofs.YthhhepbflggojaaDoor.D2
