/-
  Joined: K17S, K17Q.
-/
import Derived.Lib.ValidLaws
import Derived.Test.YtpmdekhjodhdmaaDoorR06
import Derived.Test.YtpmdekhjodhdmaaDoorR10
import Derived.Test.YtpmdekhjodhdmaaDoorR11
namespace Go.Proofs.YtpmdekhjodhdmaaDoor.K17
open Go.RowKit Go.Proofs.YtpmdekhjodhdmaaDoor
open Go.Lib
set_option linter.unusedVariables false
set_option linter.unusedSimpArgs false
set_option maxRecDepth 8000
def es (c : Nat) : List UInt8 := if c = 60 then [38, 108, 116, 59] else if c = 62 then [38, 103, 116, 59] else if c = 38 then [38, 97, 109, 112, 59] else if c = 34 then [38, 113, 117, 111, 116, 59] else e8 c
def escF : Nat → List UInt8 → List UInt8
  | 0, _ => []
  | f + 1, l => if l = [] then [] else es (dN l).1 ++ escF f (l.drop (dN l).2)
def esc (l : List UInt8) : List UInt8 := escF l.length l
theorem escF_fuel : ∀ (f g : Nat) (l : List UInt8), l.length ≤ f → l.length ≤ g → escF f l = escF g l
  | 0, g, l, h1, h2 => by
    obtain rfl : l = [] := List.length_eq_zero_iff.1 (by omega)
    cases g <;> rfl
  | f + 1, g, l, h1, h2 => by
    by_cases hl : l = []
    · subst hl; cases g <;> rfl
    have hpos := List.length_pos_iff.2 hl
    obtain ⟨g, rfl⟩ : ∃ k, g = k + 1 := ⟨g - 1, by omega⟩
    have := dN_pos l hl
    rw [escF, escF, if_neg hl, if_neg hl, escF_fuel f g _ (by rw [List.length_drop]; omega) (by rw [List.length_drop]; omega)]
theorem esc_nil : esc [] = [] := rfl
theorem esc_step (l : List UInt8) (hl : l ≠ []) : esc l = es (dN l).1 ++ esc (l.drop (dN l).2) := by
  have hpos := List.length_pos_iff.2 hl
  obtain ⟨n, hn⟩ : ∃ n, l.length = n + 1 := ⟨l.length - 1, by omega⟩
  have := dN_pos l hl
  unfold esc
  rw [hn, escF, if_neg hl, escF_fuel n (l.drop (dN l).2).length _ (by rw [List.length_drop]; omega) (Nat.le_refl _)]
theorem es_len (c : Nat) : (es c).length ≤ 6 := by
  unfold es
  have := (code8.len c).2
  repeat' split
  all_goals first | decide | omega
theorem escF_len : ∀ (f : Nat) (l : List UInt8), (escF f l).length ≤ 6 * l.length
  | 0, l => by simp [escF]
  | f + 1, l => by
    rw [escF]
    split
    · simp
    · rename_i hl
      have h1 := es_len (dN l).1
      have h2 := escF_len f (l.drop (dN l).2)
      have h3 := dN_pos l hl
      have h4 := List.length_pos_iff.2 hl
      rw [List.length_drop] at h2
      rw [List.length_append]
      omega
theorem esc_len (l : List UInt8) : (esc l).length ≤ 6 * l.length := escF_len _ l
def hcF : Nat → List UInt8 → Bool
  | 0, _ => false
  | f + 1, l => if l = [] then false else ctl (dN l).1 || hcF f (l.drop (dN l).2)
def hc (l : List UInt8) : Bool := hcF l.length l
theorem hcF_fuel : ∀ (f g : Nat) (l : List UInt8), l.length ≤ f → l.length ≤ g → hcF f l = hcF g l
  | 0, g, l, h1, h2 => by
    obtain rfl : l = [] := List.length_eq_zero_iff.1 (by omega)
    cases g <;> rfl
  | f + 1, g, l, h1, h2 => by
    by_cases hl : l = []
    · subst hl; cases g <;> rfl
    have hpos := List.length_pos_iff.2 hl
    obtain ⟨g, rfl⟩ : ∃ k, g = k + 1 := ⟨g - 1, by omega⟩
    have := dN_pos l hl
    rw [hcF, hcF, if_neg hl, if_neg hl, hcF_fuel f g _ (by rw [List.length_drop]; omega) (by rw [List.length_drop]; omega)]
theorem hc_step (l : List UInt8) (hl : l ≠ []) : hc l = (ctl (dN l).1 || hc (l.drop (dN l).2)) := by
  have hpos := List.length_pos_iff.2 hl
  obtain ⟨n, hn⟩ : ∃ n, l.length = n + 1 := ⟨l.length - 1, by omega⟩
  have := dN_pos l hl
  unfold hc
  rw [hn, hcF, if_neg hl, hcF_fuel n (l.drop (dN l).2).length _ (by rw [List.length_drop]; omega) (Nat.le_refl _)]
theorem idx_hc (s : ByteArray) : ∀ (f pos : Nat), s.size ≤ pos + f → pos ≤ s.size → (decide (0 ≤ idxFuncFrom ctl true s f pos)) = hc (s.data.toList.drop pos)
  | 0, pos, h1, h2 => by
    rw [List.drop_eq_nil_of_le (by rw [size_l]; omega)]
    rfl
  | f + 1, pos, h1, h2 => by
    unfold idxFuncFrom
    by_cases hp : pos < s.size
    · rw [if_pos hp, hc_step _ (drop_ne _ _ (by rw [size_l]; exact hp)), dec_at s pos hp]
      have hd := dN_bd (s.data.toList.drop pos) (drop_ne _ _ (by rw [size_l]; exact hp))
      rw [List.length_drop, size_l] at hd
      cases hc1 : ctl (dN (s.data.toList.drop pos)).1
      · rw [if_neg (by simp), List.drop_drop, Bool.false_or]
        exact idx_hc s f _ (by omega) (by omega)
      · rw [if_pos rfl, Bool.true_or]
        exact decide_eq_true (by omega)
    · rw [if_neg hp, List.drop_eq_nil_of_le (by rw [size_l]; omega)]
      rfl
theorem hascontrol_any (s : ByteArray) (w : World) : Calls Tryd.prog 32 #[.string s] w fun e w' => e = .returned (.bool (hc s.data.toList)) ∧ Below w.heap.size w w' := by
  have eg : ∀ args w, (callFunc 53 args).run Tryd.prog w = .ok (.enter 53 args) w := enters_of Tryd.func53 (by kernel_rfl) rfl
  have CI := hide (Any.strings_IndexFunc_runes laysGw15 53 #[] eg ctl s w (fun W x hx hb => (ctl_any x W hx).mono fun e w' h => ⟨h.1, 0, h.2⟩))
  have hi := idx_hc s s.size 0 (by omega) (by omega)
  rw [List.drop_zero] at hi
  change decide (0 ≤ idxFunc ctl true s) = _ at hi
  generalize idxFunc ctl true s = I at CI hi
  rw [← hi]
  clear hi
  by_cases h0 : 0 ≤ I
  · rw [decide_eq_true h0]
    go_enter Tryd.func32, Tryd.ntmps32
    go_wp2_with (go_at_call 52; refine CI.out.mono ?_; rintro e w1 ⟨rfl, hb⟩)
    go_ret
    exact ⟨rfl, hb⟩
  · rw [decide_eq_false h0]
    have h0' : I < 0 := by omega
    have h0d : decide (0 ≤ I) = false := decide_eq_false h0
    go_enter Tryd.func32, Tryd.ntmps32
    go_wp2_with (go_at_call 52; refine CI.out.mono ?_; rintro e w1 ⟨rfl, hb⟩)
    go_ret
    exact ⟨by simp only [h0d]; rfl, hb⟩
theorem vt_valid {l : List UInt8} (h : Vt l) : Lib.validD l = true := by
  induction h with
  | nil => rfl
  | cons c r hc hr ih =>
    have hd := dN_e8 c r hc
    have hlen := code8.len c
    rw [validD_step _ (by simp [e8_ne]), decodeL_N]
    unfold dN at hd
    rw [hd, if_neg, List.drop_left' rfl]
    · exact ih
    · rintro ⟨h1, h2⟩
      simp only at h1 h2
      subst h1
      revert h2; decide
theorem valid_vt : ∀ (n : Nat) (l : List UInt8), l.length ≤ n → Lib.validD l = true → Vt l
  | 0, l, h, _ => by
    obtain rfl : l = [] := List.length_eq_zero_iff.1 (by omega)
    exact .nil
  | n + 1, l, h, hv => by
    by_cases hl : l = []
    · subst hl; exact .nil
    rw [validD_step _ hl, decodeL_N] at hv
    change (if (dN l).1 = 65533 ∧ (dN l).2 = 1 then false else validD (l.drop (dN l).2)) = true at hv
    have hp := dN_pos l hl
    split at hv
    · cases hv
    · rename_i hne
      have hst : st8 l = dN l := by
        unfold st8
        rw [if_neg hl, if_neg]
        intro h
        exact hne ⟨by rw [h], by rw [h]⟩
      obtain ⟨g1, g2, g3⟩ := code8.good l (by rw [hst]; omega)
      rw [hst] at g1 g2 g3
      have := Vt.cons _ _ g1 (valid_vt n (l.drop (dN l).2) (by rw [List.length_drop]; omega) hv)
      rwa [g2, List.take_append_drop] at this
theorem valid_iff (l : List UInt8) : Lib.validD l = true ↔ Vt l := ⟨valid_vt _ l (Nat.le_refl _), vt_valid⟩
theorem Wr.alloc {B b : Nat} {w w' : World} (h : Wr B b w w') (hB : B ≤ w'.heap.size) (o : Obj) : Wr B b w (w'.alloc o) := ⟨h.below.alloc hB _, h.oth.alloc _⟩
theorem Wr.iterAt {B b k : Nat} {w w' : World} (h : Wr B b w w') (hB : B ≤ k) (hk : w.heap.size ≤ k) (s : ByteArray) (pos : Nat) : Wr B b w (w'.iterAt k s pos) :=
  ⟨Lib.below_iterAt h.below hB s pos, fun j o hj h1 h2 => by
    rw [iterAt_other _ _ _ _ _ (by have := heap_lt hj; omega)]
    exact h.oth j o hj h1 h2⟩
structure ES (w : World) (B b : Nat) (s : ByteArray) (F : List UInt8) (wr : World) (pos : Nat) (acc : List UInt8) : Prop where
  bd : Bd wr B b acc
  it : wr.heap[w.heap.size]? = some (.stringIter s pos)
  wr' : Wr B b w wr
  ps : pos ≤ s.size
  al : acc.length + 6 * (s.size - pos) ≤ 140737488355300
  vt : Vt (s.data.toList.drop pos)
  eq : acc ++ esc (s.data.toList.drop pos) = F
set_option maxHeartbeats 4000000 in
theorem escape_any (B b : Nat) (acc0 : List UInt8) (s : ByteArray) (w : World) (h : Bd w B b acc0) (hBw : B ≤ w.heap.size) (hlen : acc0.length + 6 * s.size ≤ 140737488355300) (hv : Vt s.data.toList) :
    Calls Tryd.prog 33 #[.pointer (some ⟨b, 0, none⟩), .string s] w fun e w' => e = .returned (.tuple #[]) ∧ Bd w' B b (acc0 ++ esc s.data.toList) ∧ Wr B b w w' := by
  have hl : s.data.toList.length = s.size := size_l s
  have hbl := h.lt
  obtain ⟨F, hF⟩ : ∃ F, acc0 ++ esc s.data.toList = F := ⟨_, rfl⟩
  rw [hF]
  have H0 := hide (show ES w B b s F (w.alloc (.stringIter s 0)) 0 acc0 from
    ⟨h.below ((Below.refl _ _).alloc (Nat.le_refl _) _), World.iter_heap w s 0, (Wr.refl _ _ _).alloc hBw _, by omega, by omega, by simpa using hv, by simpa using hF⟩)
  have HB := hide (And.intro hbl hBw)
  clear hv h hF hlen hbl
  go_enter Tryd.func33, Tryd.ntmps33
  go_wp2
  go_loopw [] (fun wr => ∃ (pos : Nat) (acc : List UInt8), Hid (ES w B b s F wr pos acc)) (fun wr => s.size - wr.iterPos w.heap.size)
  case atStart => exact ⟨0, acc0, H0⟩
  case round =>
    clear H0
    obtain ⟨pos, acc, HP⟩ := hrel
    have hit := HP.out.it
    have hwr : w.heap.size ≤ wr.heap.size := HP.out.wr'.below.size
    by_cases hp : pos < s.size
    · have hnx : ∀ ty, (Instr.next (.pointer (some ⟨w.heap.size, 0, none⟩)) true ty).run Tryd.prog wr = _ := fun ty => Lib.run_next_any_at wr w.heap.size s pos ty hit hp
      obtain ⟨c, n, hd, hc, hn1, hn4, hle, hvt, htk, hb⟩ := vt_next HP.out.vt (by rw [hl]; exact hp)
      have hes := esc_step _ (drop_ne s.data.toList pos (by rw [hl]; exact hp))
      rw [hd, List.drop_drop] at hes
      simp only at hes
      rw [dec_at s pos hp, hd] at hnx
      simp only at hnx
      have hcp := isP_t.1 hc
      have hc1 : (c : Int) ≤ 1114111 := hcp.2.1
      have hc0 : (0 : Int) ≤ (c : Int) := hcp.1
      rw [hl] at hle
      have B2 := hide (HP.out.bd.kept (KC.iterAt hit (pos + n)))
      have it2 := Lib.iterAt_heap wr w.heap.size s pos (pos + n) hit
      have W2 := hide (HP.out.wr'.iterAt (k := w.heap.size) HB.out.2 (Nat.le_refl _) s (pos + n))
      have hsz2 : B ≤ (wr.iterAt w.heap.size s (pos + n)).heap.size := by rw [Lib.iterAt_size]; have := HB.out; omega
      have IT2 := hide it2
      have LE := hide (And.intro hle hn1)
      have VT := hide hvt
      have hEQ : (acc ++ es c) ++ esc (s.data.toList.drop (pos + n)) = F := by rw [List.append_assoc, ← hes]; exact HP.out.eq
      have EQ := hide hEQ
      have LN := hide (es_len c)
      /- behind a write of es c -/
      have key : ∀ W1, Bd W1 B b (acc ++ es c) → Wr B b (wr.iterAt w.heap.size s (pos + n)) W1 → ES w B b s F W1 (pos + n) (acc ++ es c) ∧ W1.iterPos w.heap.size = pos + n := fun W1 h1 k1 => by
        have hi := k1.oth.iter IT2.out (show w.heap.size ≠ b by have := HB.out; omega)
        refine ⟨⟨h1, hi, ⟨W2.out.below.trans k1.below, W2.out.oth.trans k1.oth⟩, LE.out.1, ?_, VT.out, EQ.out⟩, by simp only [World.iterPos, hi]⟩
        have := HP.out.al; have := LN.out; have := LE.out
        rw [List.length_append]; omega
      have KEY := hide key
      have hm : wr.iterPos w.heap.size = pos := by simp only [World.iterPos, hit]
      have HM := hide hm
      have AL := hide (show acc.length + 6 ≤ 140737488355300 by have := HP.out.al; omega)
      have WS := hide (fun (t : ByteArray) (w2 : World) (ht : t.size ≤ 6) (h : wr.iterAt w.heap.size s (pos + n) = w2) => wstr_any B b acc t w2 (by rw [← h]; exact B2.out) (by have := AL.out; omega) (by rw [← h]; exact hsz2))
      have CW := hide (fun (w2 : World) (h : wr.iterAt w.heap.size s (pos + n) = w2) => wrune_any B b acc c w2 hc (by rw [← h]; exact B2.out) (by have := AL.out; omega) (by rw [← h]; exact hsz2))
      clear hb hd htk hvt hcp hes it2 key hm hEQ hc
      by_cases h1 : c = 60
      · subst h1
        have WC := hide (fun w2 h => WS.out ⟨#[38, 108, 116, 59]⟩ w2 (by decide) h)
        go_wp2_with (first | (go_at_call 49; refine (WC.out _ rfl).mono ?_; rintro e W1 ⟨rfl, h1', k1⟩; have H1 := hide (KEY.out W1 h1' k1); clear h1' k1))
        go_roundw
        case rel => exact ⟨pos + n, _, hide H1.out.1⟩
        case measure => rw [H1.out.2, HM.out]; have := LE.out; omega
      have h1' : ((c : Int) == 60) = false := by rw [beq_eq_false_iff_ne]; omega
      by_cases h2 : c = 62
      · subst h2
        have WC := hide (fun w2 h => WS.out ⟨#[38, 103, 116, 59]⟩ w2 (by decide) h)
        go_wp2_with (first | (go_at_call 49; refine (WC.out _ rfl).mono ?_; rintro e W1 ⟨rfl, h1', k1⟩; have H1 := hide (KEY.out W1 h1' k1); clear h1' k1))
        go_roundw
        case rel => exact ⟨pos + n, _, hide H1.out.1⟩
        case measure => rw [H1.out.2, HM.out]; have := LE.out; omega
      have h2' : ((c : Int) == 62) = false := by rw [beq_eq_false_iff_ne]; omega
      by_cases h3 : c = 38
      · subst h3
        have WC := hide (fun w2 h => WS.out ⟨#[38, 97, 109, 112, 59]⟩ w2 (by decide) h)
        go_wp2_with (first | (go_at_call 49; refine (WC.out _ rfl).mono ?_; rintro e W1 ⟨rfl, h1', k1⟩; have H1 := hide (KEY.out W1 h1' k1); clear h1' k1))
        go_roundw
        case rel => exact ⟨pos + n, _, hide H1.out.1⟩
        case measure => rw [H1.out.2, HM.out]; have := LE.out; omega
      have h3' : ((c : Int) == 38) = false := by rw [beq_eq_false_iff_ne]; omega
      by_cases h4 : c = 34
      · subst h4
        have WC := hide (fun w2 h => WS.out ⟨#[38, 113, 117, 111, 116, 59]⟩ w2 (by decide) h)
        go_wp2_with (first | (go_at_call 49; refine (WC.out _ rfl).mono ?_; rintro e W1 ⟨rfl, h1', k1⟩; have H1 := hide (KEY.out W1 h1' k1); clear h1' k1))
        go_roundw
        case rel => exact ⟨pos + n, _, hide H1.out.1⟩
        case measure => rw [H1.out.2, HM.out]; have := LE.out; omega
      have h4' : ((c : Int) == 34) = false := by rw [beq_eq_false_iff_ne]; omega
      have hes : es c = e8 c := by unfold es; rw [if_neg h1, if_neg h2, if_neg h3, if_neg h4]
      rw [hes] at KEY
      clear h1 h2 h3 h4 hes
      go_wp2_with (first | (go_at_call 54; refine (CW.out _ rfl).mono ?_; rintro e W1 ⟨rfl, h1', k1⟩; have H1 := hide (KEY.out W1 h1' k1); clear h1' k1))
      go_roundw
      case rel => exact ⟨pos + n, _, hide H1.out.1⟩
      case measure => rw [H1.out.2, HM.out]; have := LE.out; omega
    · have hnx : ∀ ty, (Instr.next (.pointer (some ⟨w.heap.size, 0, none⟩)) true ty).run Tryd.prog wr = _ := fun ty => Lib.run_next_end_at wr w.heap.size s pos ty hit hp
      have heq := HP.out.eq
      rw [List.drop_eq_nil_of_le (by rw [hl]; have := HP.out.ps; omega), esc_nil, List.append_nil] at heq
      subst heq
      go_wp2
      go_end0
      exact ⟨rfl, HP.out.bd, HP.out.wr'⟩
def escV (l : List UInt8) : List UInt8 × Int := if Lib.validD l = false then ([], 40) else if hc l then ([], 170) else (esc l, 0)
set_option maxHeartbeats 1000000 in
theorem escape_fn (s : ByteArray) (w : World) (hg : Glo w) (hs : s.size ≤ 1048576) :
    Calls Tryd.prog 17 #[.string s] w fun e w' => e = .returned (.tuple #[.string ⟨(escV s.data.toList).1.toArray⟩, .int .i64 (escV s.data.toList).2]) ∧ Below w.heap.size w w' := by
  have CV := hide (Any.utf8_ValidString laysVS s w (by omega) hg)
  have CH := hide (fun w => hascontrol_any s w)
  unfold escV
  cases hv : Lib.validD s.data.toList
  · rw [hv] at CV
    rw [if_pos rfl]
    clear hg hs hv
    go_enter Tryd.func17, Tryd.ntmps17
    go_wp2_with (first | (go_at_call 31; refine CV.out.mono ?_; rintro e w1 ⟨rfl, hb⟩))
    go_ret2
    exact ⟨rfl, hb⟩
  rw [hv] at CV
  rw [if_neg (by simp)]
  have HV := hide ((valid_iff _).1 hv)
  cases hh : hc s.data.toList
  · rw [hh] at CH
    rw [if_neg (by simp)]
    have HS := hide hs
    clear hg hs hv hh
    go_enter Tryd.func17, Tryd.ntmps17
    go_wp2_with (first
      | (go_at_call 31; refine CV.out.mono ?_; rintro e w1 ⟨rfl, hb⟩)
      | (go_at_call 32; refine (CH.out _).mono ?_; rintro e w2 ⟨rfl, hb2⟩)
      | (go_at_call 33; refine (escape_any w2.heap.size w2.heap.size [] s _ (Bd.new w2) (by simp) (by have := HS.out; simp; omega) HV.out).mono ?_; rintro e w3 ⟨rfl, hB3, hW3⟩)
      | (go_at_call 29; refine (bstr_any w2.heap.size w2.heap.size _ w3 hB3 (by have := hW3.below.size; simp at this; omega)).mono ?_; rintro e w4 ⟨rfl, hb4⟩))
    go_ret2
    have h1 : Below w.heap.size w w2 := hb.trans (hb2.mono hb.size)
    exact ⟨rfl, h1.trans ((((Below.refl _ _).alloc (Nat.le_refl _) _).trans (hW3.below.trans hb4)).mono h1.size)⟩
  · rw [hh] at CH
    rw [if_pos rfl]
    clear hg hs hv hh
    go_enter Tryd.func17, Tryd.ntmps17
    go_wp2_with (first
      | (go_at_call 31; refine CV.out.mono ?_; rintro e w1 ⟨rfl, hb⟩)
      | (go_at_call 32; refine (CH.out _).mono ?_; rintro e w2 ⟨rfl, hb2⟩))
    go_ret2
    exact ⟨rfl, hb.trans (hb2.mono hb.size)⟩
end Go.Proofs.YtpmdekhjodhdmaaDoor.K17
