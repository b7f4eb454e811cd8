/-
  Joined: K17Tp, K17Wk.
-/
import Derived.BigQuiet
import Derived.Deep.QuietTactic
import Derived.Test.YtpmdekhjodhdmaaDoorR16
import Derived.Test.YtpmdekhjodhdmaaDoorR17
namespace Go.Proofs.YtpmdekhjodhdmaaDoor.K17
open Go.RowKit Go.Proofs.YtpmdekhjodhdmaaDoor
open Go.Lib
set_option linter.unusedVariables false
set_option linter.unusedSimpArgs false
set_option maxRecDepth 8000
theorem esc_cons (c : Nat) (r : List UInt8) (hc : isP (c : Int) = true) : esc (e8 c ++ r) = es c ++ esc r := by
  rw [esc_step _ (by simp [e8_ne]), dN_e8 c r hc]
  simp only
  rw [List.drop_left' rfl]
theorem hc_cons (c : Nat) (r : List UInt8) (h : isP (c : Int) = true) : hc (e8 c ++ r) = (ctl c || hc r) := by
  rw [hc_step _ (by simp [e8_ne]), dN_e8 c r h]
  simp only
  rw [List.drop_left' rfl]
theorem ent_lt (r : List UInt8) : ent ([38, 108, 116, 59] ++ r) = some (60, 4) := by
  unfold ent
  have hu : upto 59 (([38, 108, 116, 59] ++ r).drop 1) = [108, 116] := by simp [upto, List.takeWhile_cons]
  rw [hu, if_neg (by simp)]
  rfl
theorem ent_gt (r : List UInt8) : ent ([38, 103, 116, 59] ++ r) = some (62, 4) := by
  unfold ent
  have hu : upto 59 (([38, 103, 116, 59] ++ r).drop 1) = [103, 116] := by simp [upto, List.takeWhile_cons]
  rw [hu, if_neg (by simp)]
  rfl
theorem ent_amp (r : List UInt8) : ent ([38, 97, 109, 112, 59] ++ r) = some (38, 5) := by
  unfold ent
  have hu : upto 59 (([38, 97, 109, 112, 59] ++ r).drop 1) = [97, 109, 112] := by simp [upto, List.takeWhile_cons]
  rw [hu, if_neg (by simp)]
  rfl
theorem ent_quot (r : List UInt8) : ent ([38, 113, 117, 111, 116, 59] ++ r) = some (34, 6) := by
  unfold ent
  have hu : upto 59 (([38, 113, 117, 111, 116, 59] ++ r).drop 1) = [113, 117, 111, 116] := by simp [upto, List.takeWhile_cons]
  rw [hu, if_neg (by simp)]
  rfl
theorem e8_first (c : Nat) (h : isP (c : Int) = true) (b : Nat) (hb : b < 128) (r : List UInt8) : (e8 c ++ r).getD 0 0 = bt b ↔ c = b := by
  have hl := code8.len c
  have hp := isP_t.1 h
  rw [List.getD_eq_getElem?_getD, List.getElem?_append_left (by omega), List.getElem?_eq_getElem (by omega)]
  simp only [Option.getD_some]
  by_cases h1 : c < 128
  · have : (e8 c)[0]'(by omega) = bt c := by simp [u8_1 h1]
    rw [this]
    constructor
    · intro h2; rw [← bt_nat c (by omega), h2, bt_nat b (by omega)]
    · rintro rfl; rfl
  · constructor
    · intro h2
      have := e8_high (c := c) (by omega) (by omega) _ (List.getElem_mem (show 0 < (e8 c).length by omega))
      rw [h2, bt_nat b (by omega)] at this
      omega
    · intro h2; omega
theorem pl_es (c : Nat) (r : List UInt8) (h : isP (c : Int) = true) (hct : ctl c = false) {p : Nat} {acc : List UInt8} {R : Except Nat (List UInt8)} (H : PL (es c ++ r) p acc R) : ∃ p', PL r p' (acc ++ e8 c) R := by
  unfold es at H
  by_cases h1 : c = 60
  · subst h1
    rw [if_pos rfl] at H
    have := H.ent (by simp) rfl (ent_lt r)
    exact ⟨_, this⟩
  rw [if_neg h1] at H
  by_cases h2 : c = 62
  · subst h2
    rw [if_pos rfl] at H
    have := H.ent (by simp) rfl (ent_gt r)
    exact ⟨_, this⟩
  rw [if_neg h2] at H
  by_cases h3 : c = 38
  · subst h3
    rw [if_pos rfl] at H
    have := H.ent (by simp) rfl (ent_amp r)
    exact ⟨_, this⟩
  rw [if_neg h3] at H
  by_cases h4 : c = 34
  · subst h4
    rw [if_pos rfl] at H
    have := H.ent (by simp) rfl (ent_quot r)
    exact ⟨_, this⟩
  rw [if_neg h4] at H
  have hd := dN_e8 c r h
  have := H.step (by simp [e8_ne]) (by
    intro h5
    exact h3 ((e8_first c h 38 (by decide) r).1 h5)) (by rw [hd]; exact hct)
  rw [hd] at this
  simp only at this
  rw [List.drop_left' rfl, List.take_left' rfl] at this
  exact ⟨_, this⟩
theorem pl_esc {l : List UInt8} (h : Vt l) : hc l = false → ∀ {p : Nat} {acc : List UInt8} {R : Except Nat (List UInt8)}, PL (esc l) p acc R → R = .ok (acc ++ l) := by
  induction h with
  | nil => intro _ p acc R H; rw [esc_nil] at H; rw [H.done]; simp
  | cons c r hc' hr ih =>
    intro hh p acc R H
    rw [hc_cons c r hc', Bool.or_eq_false_iff] at hh
    rw [esc_cons c r hc'] at H
    obtain ⟨p', H2⟩ := pl_es c _ hc' hh.1 H
    have := ih hh.2 H2
    rw [this, List.append_assoc]
theorem pl_of_esc {l : List UInt8} (h : Vt l) (hh : hc l = false) : pl (esc l) = .ok l := by
  have := pl_esc h hh (PL.start (esc l))
  rw [this]; simp
theorem es_vt (c : Nat) (h : isP (c : Int) = true) : Vt (es c) := by
  have lo : ∀ l : List UInt8, (∀ b ∈ l, b.toNat < 128) → Vt l := by
    intro l
    induction l with
    | nil => intro _; exact .nil
    | cons b r ih => intro hb; exact Vt.cons1 (hb b (by simp)) (ih fun x hx => hb x (by simp [hx]))
  unfold es
  repeat' split
  all_goals first
    | exact lo _ (by decide)
    | (have := Vt.cons c [] h .nil; rwa [List.append_nil] at this)
theorem esc_vt {l : List UInt8} (h : Vt l) : Vt (esc l) := by
  induction h with
  | nil => exact .nil
  | cons c r hc hr ih => rw [esc_cons c r hc]; exact (es_vt c hc).app ih
theorem es_not (c : Nat) (h : isP (c : Int) = true) : (34 : UInt8) ∉ es c ∧ (60 : UInt8) ∉ es c := by
  have key : ∀ b : Nat, b < 128 → c ≠ b → bt b ∉ e8 c := by
    intro b hb hne hm
    have hp := isP_t.1 h
    by_cases h1 : c < 128
    · rw [u8_1 h1] at hm
      simp only [List.mem_singleton] at hm
      apply hne
      rw [← bt_nat c (by omega), ← hm, bt_nat b (by omega)]
    · have := e8_high (c := c) (by omega) (by omega) _ hm
      rw [bt_nat b (by omega)] at this
      omega
  unfold es
  repeat' split
  all_goals first
    | exact ⟨by decide, by decide⟩
    | (rename_i h1 h2 h3 h4; exact ⟨key 34 (by decide) h4, key 60 (by decide) h1⟩)
theorem esc_not {l : List UInt8} (h : Vt l) : (34 : UInt8) ∉ esc l ∧ (60 : UInt8) ∉ esc l := by
  induction h with
  | nil => rw [esc_nil]; simp
  | cons c r hc hr ih =>
    rw [esc_cons c r hc]
    have := es_not c hc
    simp only [List.mem_append, not_or]
    exact ⟨⟨this.1, ih.1⟩, this.2, ih.2⟩
theorem bk_b {b : UInt8} (r : List UInt8) (h : blB b = true) : bk (b :: r) = bk r := by unfold bk; rw [List.dropWhile_cons, if_pos h]
theorem bk_n {b : UInt8} (r : List UInt8) (h : blB b = false) : bk (b :: r) = b :: r := by unfold bk; rw [List.dropWhile_cons, if_neg (by rw [h]; simp)]
theorem hp_1 (b : UInt8) (r : List UInt8) : hp [b] (b :: r) = true := (hp_iff _ _).2 ⟨r, rfl⟩
theorem hp_n1 {a b : UInt8} (p r : List UInt8) (h : a ≠ b) : hp (a :: p) (b :: r) = false := by
  unfold hp Lib.hasPrefix
  simp [List.isPrefixOf, h]
theorem tp_1 (b : UInt8) (r : List UInt8) : tp [b] (b :: r) = r := tp_t rfl
theorem upto_app {b : UInt8} : ∀ (t r : List UInt8), b ∉ t → upto b (t ++ b :: r) = t
  | [], r, _ => by simp [upto]
  | c :: t, r, h => by
    simp only [List.mem_cons, not_or] at h
    have := upto_app t r h.2
    unfold upto at *
    rw [List.cons_append, List.takeWhile_cons, if_pos (by simpa using Ne.symm h.1), this]
abbrev wkB : List UInt8 := [60, 112, 32, 105, 100, 61, 34, 97, 34, 62, 120, 32, 38, 108, 116, 59, 32, 121, 60, 47, 112, 62]
theorem wk_sc : scR wkB = ([⟨1, [112], [], [([105, 100], [97])], 0⟩, ⟨4, [], [120, 32, 60, 32, 121], [], 10⟩, ⟨2, [112], [], [], 18⟩], 0, 0) := by decide +kernel
theorem wk_es : escV [97, 34, 98] = ([97, 38, 113, 117, 111, 116, 59, 98], 0) := by decide +kernel
set_option maxHeartbeats 4000000 in
theorem wakes_any (w : World) (hg : Glo w) (hm : MX w) : Calls Tryd.prog 9 #[] w fun e w' => e = .returned (.bool true) ∧ Below w.heap.size w w' := by
  have CS := hide (scan_any ⟨wkB.toArray⟩ w hg hm (by decide))
  have CE := hide (fun w h => escape_fn ⟨#[97, 34, 98]⟩ w h (by decide))
  have HG := hide hg
  rw [show (⟨wkB.toArray⟩ : ByteArray).data.toList = wkB from rfl, wk_sc] at CS
  rw [show (⟨#[97, 34, 98]⟩ : ByteArray).data.toList = [97, 34, 98] from rfl, wk_es] at CE
  change Hid (Calls _ _ #[.string ⟨#[60, 112, 32, 105, 100, 61, 34, 97, 34, 62, 120, 32, 38, 108, 116, 59, 32, 121, 60, 47, 112, 62]⟩] _ _) at CS
  clear hg hm
  go_enter Tryd.func9, Tryd.ntmps9
  go_wp2_with (first
    | (go_at_call 10; refine CS.out.mono ?_; rintro e w1 ⟨v, rfl, h1, h2⟩; obtain ⟨a, c, rfl, hL, _⟩ := h1.lst; have HL := hide hL; have H2 := hide h2; clear h1 h2 hL)
    | (go_at_call 17; refine (CE.out _ (HG.out.below H2.out)).mono ?_; rintro e w2 ⟨rfl, h3⟩; have HL2 := hide (HL.out.below h3); have H3 := hide (H2.out.trans (h3.mono H2.out.size)); clear h3))
  rcases HL2.out with h0 | ⟨b, o, rfl, hb, hc⟩
  · simp at h0
  obtain ⟨aa, ac, _, _, _, _, c2, _, c4⟩ := hc 1 (by simp)
  simp at c2 c4
  have H4 := hide (fun n => H3.out.trans ((below_drewN' w2 n).mono H3.out.size))
  clear hc HL HL2 CE CS
  have hq : ((⟨#[120, 32, 60, 32, 121]⟩ : ByteArray).toList == (⟨#[120, 32, 60, 32, 121]⟩ : ByteArray).toList) = true := by simp
  have hq2 : ((⟨#[97, 38, 113, 117, 111, 116, 59, 98]⟩ : ByteArray).toList == (⟨#[97, 38, 113, 117, 111, 116, 59, 98]⟩ : ByteArray).toList) = true := by simp
  go_wp2_with fail
  go_ret
  exact ⟨rfl, by first | exact H3.out | exact H4.out _⟩
end Go.Proofs.YtpmdekhjodhdmaaDoor.K17
