/-
  Joined: O5Qdi.
-/
import Derived.Test.YtalmcdbdibpgkaaGreatDoorBV
import Derived.Test.YtalmcdbdibpgkaaGreatDoorBQ
/-
  What the reference's dict answers, over its read.
-/
namespace Go.Proofs.YtalmcdbdibpgkaaGreatDoor
open Go.RowKit Go.Deep
set_option linter.unusedVariables false

theorem rdict_fin {Q : Ending → World → Prop} {wf : World} {B : Nat} {p : Pay} {ka : Option Addr} {kc : Nat} {ia : Option Addr} {n ic : Nat} {q : Nat} {ok : Bool} (hk : Blk wf B (obox p ka kc ia n ic) 25) (hbel : Q (.returned (.tuple #[ov p ka kc ia n ic, .int .i64 q, .bool ok])) wf) (a : Act) (h4 : a.tmps[6]?.getD undef = .pointer (some ⟨B, 0, none⟩)) (h5 : a.tmps[7]?.getD undef = .int .i64 q) (h6 : a.tmps[8]?.getD undef = .bool ok) (hd : a.defers = []) :
    bodyPost Tryz.prog Tryz.f53 Q Exit.ret a wf := by
  obtain ⟨⟨f0, f1, f2, f3, f4, f5⟩, _⟩ := hk.six
  refine bodyPost_ret (v := .tuple #[ov p ka kc ia n ic, .int .i64 q, .bool ok]) ?_ hd hbel
  simp [results, Tryz.results53, go_sem, f0, f1, f2, f3, f4, f5, h4, h5, h6]
theorem hp_two (s : ByteArray) (A : Nat) (c d : UInt8) : Lib.hasPrefix (s.data.toList.drop A) [c, d] = true ↔ ∃ (h : A + 1 < s.size), s[A].toNat = c.toNat ∧ s[A + 1].toNat = d.toNat := by
  rcases Nat.lt_or_ge (A + 1) s.size with h | h
  · rw [drop_at s A (by omega), drop_at s (A + 1) h]
    constructor
    · intro e
      simp [Lib.hasPrefix] at e
      exact ⟨h, by rw [e.1], by rw [e.2]⟩
    · rintro ⟨h', e1, e2⟩
      have e1 := UInt8.toNat_inj.1 e1
      have e2 := UInt8.toNat_inj.1 e2
      simp [Lib.hasPrefix, e1, e2]
  · constructor
    · intro e
      have := hasP_len e
      rw [List.length_drop, ← Lib.size_eq] at this
      simp at this
      omega
    · rintro ⟨h', _⟩; omega
set_option maxRecDepth 8000 in
set_option maxHeartbeats 1500000 in
theorem dict_q (s : ByteArray) (M : Nat) (ih : ∀ g, g < M → ReC s g) (bd : BdQ s) (f : Nat) (hf : f ≤ M) (a nest : Nat) (w : World) (hs : s.size ≤ 65536) (ha : a ≤ s.size) (hn : nest ≤ 33) (hfu : 3 * (s.size - a) + 2 ≤ f) :
    Calls Tryz.prog 53 #[.string s, .int .i64 a, .int .i64 nest] w (ReR w (((recQ s.data.toList f).di a nest).map fun q => (kp q.1, q.2.1, q.2.2))) := by
  obtain ⟨R, hR⟩ : ∃ R, (recQ s.data.toList f).di a nest = R := ⟨_, rfl⟩
  rw [hR]
  have IH := hide ih
  have BD := hide bd
  have HR0 := hide hR
  have HF := hide hf
  have HFU := hide hfu
  have HS := hide hs
  have hs' : (s.size : Int) ≤ 65536 := by omega
  have HA := hide ha
  have HN := hide hn
  have hb1 : Below w.heap.size w ((w.alloc (.cells zobj 25)).alloc (.cells (dbox (.slice none 0 0) (.slice none 0 0)) 25)) := ((Below.refl _ _).alloc (Nat.le_refl _) _).alloc (by simp) _
  have HB1 := hide hb1
  have HKa : Hid (Blk ((w.alloc (.cells zobj 25)).alloc (.cells (dbox (.slice none 0 0) (.slice none 0 0)) 25)) w.heap.size zobj 25) := hide ((Blk.new w _ _).below ((Below.refl _ _).alloc (Nat.le_refl _) _))
  have HKo : Hid (Blk ((w.alloc (.cells zobj 25)).alloc (.cells (dbox (.slice none 0 0) (.slice none 0 0)) 25)) (w.heap.size + 1) (dbox (.slice none 0 0) (.slice none 0 0)) 25) := hide (by
    have := Blk.new (w.alloc (.cells zobj 25)) (dbox (.slice none 0 0) (.slice none 0 0)) 25
    rwa [show (w.alloc (.cells zobj 25)).heap.size = w.heap.size + 1 by simp] at this)
  have CB := hide (fun k x (hk : k ≤ s.size) => blanks_any s k x (by omega) hk)
  have HZ1 : Hid (w.heap.size + 1 + 1 ≤ ((w.alloc (.cells zobj 25)).alloc (.cells (dbox (.slice none 0 0) (.slice none 0 0)) 25)).heap.size) := hide (by simp)
  clear ih bd hb1 hR hf hfu hs ha hn
  go_enter Tryz.func53, Tryz.ntmps53
  go_wp2_with fail
  go_loopg [1] f (fun g va wr => ∃ (k fu : Nat) (ss : List ByteArray) (acc : List Ent) (vk vr : Value), va = .int .i64 k ∧ Hid (g = fu ∧ 3 * (s.size - k) + 2 ≤ fu ∧ fu ≤ M ∧ k ≤ s.size ∧ acc.length ≤ k ∧ ss.length = acc.length ∧ (∀ x ∈ ss, x.size ≤ 9223372036854775807) ∧ R = ((recQ s.data.toList fu).di k nest).map (fun q => (ss ++ q.1, joinF acc q.2.1, q.2.2)) ∧ Below w.heap.size w wr ∧
    Blk wr w.heap.size zobj 25 ∧ Blk wr (w.heap.size + 1) (dbox vk vr) 25 ∧ DRow wr (w.heap.size + 1 + 1) vk vr ss acc ∧ w.heap.size + 1 + 1 ≤ wr.heap.size))
  case atStart => exact ⟨a, f, [], [], .slice none 0 0, .slice none 0 0, rfl, hide ⟨rfl, HFU.out, HF.out, HA.out, by simp, rfl, by simp, by rw [HR0.out]; cases R <;> rfl, HB1.out, HKa.out, HKo.out, DRow.nil _ _, HZ1.out⟩⟩
  case round =>
    clear HKa HKo HB1 HR0 HFU HF HA HZ1
    obtain ⟨k, fu, ss, acc, vk, vr, rfl, HV⟩ := hrel
    obtain ⟨hg, hfu, hfm, hk, hal, hsl, hss, hR, hbel, hka, hko, hdr, hz⟩ := HV.out
    clear HV
    obtain ⟨fu, rfl⟩ : ∃ f', fu = f' + 1 := ⟨fu - 1, by omega⟩
    replace hR : R = (diQ s.data.toList (recQ s.data.toList fu) k nest).map (fun q => (ss ++ q.1, joinF acc q.2.1, q.2.2)) := hR
    unfold diQ at hR
    have hkA := blanks_ge s.data.toList k
    have hAs := blanks_le s k hk
    obtain ⟨A, hA⟩ : ∃ A, blanksV s.data.toList k = A := ⟨_, rfl⟩
    rw [hA] at hR hkA hAs
    have hfl : fu < M := by omega
    have hFJ : ∀ j, A < j → j ≤ s.size → 3 * (s.size - j) + 1 ≤ fu := fun j h1 h2 => by omega
    have hFQ : ∀ q, A < q → q ≤ s.size → 3 * (s.size - q) + 2 ≤ fu := fun q h1 h2 => by omega
    have hAL : acc.length ≤ A := by omega
    have HA := hide hA
    clear hA
    have HBU := hide hbel
    have HKa := hide hka
    have HKo := hide hko
    have HDR := hide hdr
    have HG := hide hg
    have HSS := hide hss
    obtain ⟨ka, kc, hvk, hx1⟩ := hdr.keys.strs
    obtain ⟨ia, ic, hv, hx2⟩ := hdr.items.row.items
    clear hx1 hx2
    subst hv
    subst hvk
    rw [forest_len] at HDR HKo hko hdr
    obtain ⟨LN, hLN⟩ : ∃ LN, acc.length = LN := ⟨_, rfl⟩
    rw [hLN] at hsl
    have HLN := hide hLN
    have HSL := hide hsl
    rw [hLN, hsl] at HDR HKo hko hdr
    have hA0 : (0 : Int) ≤ (A : Int) := by omega
    obtain ⟨⟨r0, r1, r2, r3, r4, r5⟩, ⟨y0, y1, y2, y3, y4, y5⟩⟩ := hka.six
    obtain ⟨⟨q0, q1, q2, q3, q4, q5⟩, ⟨z0, z1, z2, z3, z4, z5⟩⟩ := hko.six
    cases ht : Lib.hasPrefix (s.data.toList.drop A) [62, 62]
    case true =>
      rw [ht, if_pos rfl] at hR
      simp only [Option.map_some, joinF_nil, List.append_nil] at hR
      subst hR
      obtain ⟨hAl, hc, hc2⟩ := (hp_two s A 62 62).1 ht
      have hlt : (A : Int) + 1 < (s.size : Int) := by omega
      have e1 : ((s[A].toNat : Int) == 62) = true := by rw [beq_iff_eq, hc]; rfl
      have e2 : ((s[A + 1].toNat : Int) == 62) = true := by rw [beq_iff_eq, hc2]; rfl
      clear hbel hka hko hdr hg hfu hfm ht hc hc2 hLN hsl hss
      go_wp2_with (go_at_call 26; refine (CB.out _ _ (by omega)).mono ?_; rintro e w9 ⟨rfl, hw9⟩; replace hw9 := hw9.symm; subst hw9; first | rw [HA.out] | rw [HJ.out])
      have hsub : Sub (fresh (w.heap.size + 1 + 1) wr) (fresh w.heap.size (st6 wr w.heap.size (.int .i64 7) (.bool false) (.int .i64 0) (.string ⟨#[]⟩) (.slice ka LN kc) (.slice ia LN ic))) := only_sub (Nat.le_of_eq (st6_size _ _ _ _ _ _ _ _).symm) fun k h1 _ => ⟨by omega, st6_block (w := wr) (b := w.heap.size) (k := k) (by omega) _ _ _ _ _ _⟩
      obtain ⟨ka', kc', ia', ic', hvk, hv, hin⟩ := DRow.oin HDR.out (by have := HLN.out; omega) (by have h1 := HSL.out; have h2 := HLN.out; omega) HSS.out hsub
      simp only [Value.slice.injEq] at hv hvk
      obtain ⟨rfl, hv2, rfl⟩ := hv
      obtain ⟨rfl, hv3, rfl⟩ := hvk
      subst hv2
      have HS2 := HSL.out
      refine rdict_fin (Q := ReR w (some (kp ss, forest acc, A + 2))) (p := kp ss) (ka := ka) (kc := kc) (ia := ia) (n := flen (forest acc)) (ic := ic) (q := A + 2) (ok := true) ?_ ?_ _ rfl rfl rfl rfl
      · show Blk _ _ #[.int .i64 7, .bool false, .int .i64 0, .string ⟨#[]⟩, .slice ka ss.length kc, .slice ia (flen (forest acc)) ic] _
        rw [HS2]
        exact st6_blk HKa.out (.int .i64 7) (.bool false) (.int .i64 0) (.string ⟨#[]⟩) (.slice ka (flen (forest acc)) kc) (.slice ia (flen (forest acc)) ic)
      · exact ⟨⟨ka, kc, ia, ic, rfl, hin⟩, st6_below HBU.out (Nat.le_refl _) _ _ _ _ _ _⟩
    case false =>
      rw [ht, if_neg (by simp)] at hR
      have hno : ¬ ∃ (h : A + 1 < s.size), s[A].toNat = 62 ∧ s[A + 1].toNat = 62 := fun h => by
        rw [(hp_two s A 62 62).2 h] at ht
        cases ht
      cases hp : Lib.hasPrefix (s.data.toList.drop A) [47]
      case false =>
        rw [hp, if_neg (by simp)] at hR
        simp only [Option.map_none] at hR
        subst hR
        have hn47 : ∀ h : A < s.size, s[A].toNat ≠ 47 := fun h e => by
          rw [(hp_byte s A 47).2 ⟨h, e⟩] at hp
          cases hp
        clear hbel hka hko hdr hg hfu hfm ht hp hLN hsl hss
        by_cases c1 : A + 1 < s.size
        · have c47 := hn47 (by omega)
          by_cases c2 : s[A].toNat = 62
          · have c3 : ¬ s[A + 1].toNat = 62 := fun h => hno ⟨c1, c2, h⟩
            clear hno hn47
            have d1 : (A : Int) + 1 < (s.size : Int) := by omega
            have e1 : ((s[A].toNat : Int) == 62) = true := by rw [beq_iff_eq]; omega
            have e2 : ((s[A + 1].toNat : Int) == 62) = false := by rw [beq_eq_false_iff_ne]; omega
            have dA : decide ((s.size : Int) ≤ (A : Int)) = false := by simp; omega
            have dA2 : (A : Int) < (s.size : Int) := by omega
            have e47 : ((s[A].toNat : Int) == 47) = false := by rw [beq_eq_false_iff_ne]; omega
            have f47 : ((s[A].toNat : Int) != 47) = true := by simp [bne, e47]
            go_wp2_with (go_at_call 26; refine (CB.out _ _ (by omega)).mono ?_; rintro e w9 ⟨rfl, hw9⟩; replace hw9 := hw9.symm; subst hw9; first | rw [HA.out] | rw [HJ.out])
            exact rdict_fin (Q := ReR w none) (p := ⟨0, false, 0, ⟨#[]⟩, []⟩) (ka := none) (kc := 0) (ia := none) (n := 0) (ic := 0) (q := 0) (ok := false) (st6_blk HKa.out (.int .i64 0) (.bool false) (.int .i64 0) (.string ⟨#[]⟩) (.slice none 0 0) (.slice none 0 0)) ⟨⟨⟨0, false, 0, ⟨#[]⟩, []⟩, none, 0, none, 0, 0, 0, rfl⟩, st6_below HBU.out (Nat.le_refl _) _ _ _ _ _ _⟩ _ rfl rfl rfl rfl
          · clear hno hn47
            have d1 : (A : Int) + 1 < (s.size : Int) := by omega
            have e1 : ((s[A].toNat : Int) == 62) = false := by rw [beq_eq_false_iff_ne]; omega
            have dA : decide ((s.size : Int) ≤ (A : Int)) = false := by simp; omega
            have dA2 : (A : Int) < (s.size : Int) := by omega
            have e47 : ((s[A].toNat : Int) == 47) = false := by rw [beq_eq_false_iff_ne]; omega
            have f47 : ((s[A].toNat : Int) != 47) = true := by simp [bne, e47]
            go_wp2_with (go_at_call 26; refine (CB.out _ _ (by omega)).mono ?_; rintro e w9 ⟨rfl, hw9⟩; replace hw9 := hw9.symm; subst hw9; first | rw [HA.out] | rw [HJ.out])
            exact rdict_fin (Q := ReR w none) (p := ⟨0, false, 0, ⟨#[]⟩, []⟩) (ka := none) (kc := 0) (ia := none) (n := 0) (ic := 0) (q := 0) (ok := false) (st6_blk HKa.out (.int .i64 0) (.bool false) (.int .i64 0) (.string ⟨#[]⟩) (.slice none 0 0) (.slice none 0 0)) ⟨⟨⟨0, false, 0, ⟨#[]⟩, []⟩, none, 0, none, 0, 0, 0, rfl⟩, st6_below HBU.out (Nat.le_refl _) _ _ _ _ _ _⟩ _ rfl rfl rfl rfl
        · clear hno
          by_cases c2 : A < s.size
          · have c47 := hn47 c2
            clear hn47
            have d1 : ¬ ((A : Int) + 1 < (s.size : Int)) := by omega
            have dA : decide ((s.size : Int) ≤ (A : Int)) = false := by simp; omega
            have dA2 : (A : Int) < (s.size : Int) := by omega
            have e47 : ((s[A].toNat : Int) == 47) = false := by rw [beq_eq_false_iff_ne]; omega
            have f47 : ((s[A].toNat : Int) != 47) = true := by simp [bne, e47]
            go_wp2_with (go_at_call 26; refine (CB.out _ _ (by omega)).mono ?_; rintro e w9 ⟨rfl, hw9⟩; replace hw9 := hw9.symm; subst hw9; first | rw [HA.out] | rw [HJ.out])
            exact rdict_fin (Q := ReR w none) (p := ⟨0, false, 0, ⟨#[]⟩, []⟩) (ka := none) (kc := 0) (ia := none) (n := 0) (ic := 0) (q := 0) (ok := false) (st6_blk HKa.out (.int .i64 0) (.bool false) (.int .i64 0) (.string ⟨#[]⟩) (.slice none 0 0) (.slice none 0 0)) ⟨⟨⟨0, false, 0, ⟨#[]⟩, []⟩, none, 0, none, 0, 0, 0, rfl⟩, st6_below HBU.out (Nat.le_refl _) _ _ _ _ _ _⟩ _ rfl rfl rfl rfl
          · clear hn47
            have d1 : ¬ ((A : Int) + 1 < (s.size : Int)) := by omega
            have dA : decide ((s.size : Int) ≤ (A : Int)) = true := by simp; omega
            have dA2 : (s.size : Int) ≤ (A : Int) := by omega
            go_wp2_with (go_at_call 26; refine (CB.out _ _ (by omega)).mono ?_; rintro e w9 ⟨rfl, hw9⟩; replace hw9 := hw9.symm; subst hw9; first | rw [HA.out] | rw [HJ.out])
            exact rdict_fin (Q := ReR w none) (p := ⟨0, false, 0, ⟨#[]⟩, []⟩) (ka := none) (kc := 0) (ia := none) (n := 0) (ic := 0) (q := 0) (ok := false) (st6_blk HKa.out (.int .i64 0) (.bool false) (.int .i64 0) (.string ⟨#[]⟩) (.slice none 0 0) (.slice none 0 0)) ⟨⟨⟨0, false, 0, ⟨#[]⟩, []⟩, none, 0, none, 0, 0, 0, rfl⟩, st6_below HBU.out (Nat.le_refl _) _ _ _ _ _ _⟩ _ rfl rfl rfl rfl
      case true =>
        rw [hp, if_pos rfl] at hR
        obtain ⟨hAl, c47⟩ := (hp_byte s A 47).1 hp
        have c47 : s[A].toNat = 47 := c47
        have hway : ¬ ((A : Int) + 1 < (s.size : Int)) ∨ (A : Int) + 1 < (s.size : Int) := by omega
        have dA : decide ((s.size : Int) ≤ (A : Int)) = false := by simp; omega
        have dA2 : (A : Int) < (s.size : Int) := by omega
        have e47 : ((s[A].toNat : Int) == 47) = true := by rw [beq_iff_eq]; omega
        have f47 : ((s[A].toNat : Int) != 47) = false := by simp [bne, e47]
        have e1 : ((s[A].toNat : Int) == 62) = false := by rw [beq_eq_false_iff_ne]; omega
        cases hnm : nmV (s.data.toList.drop (A + 1)) (A + 1) with
        | none =>
          rw [hnm] at hR
          simp only [Option.map_none] at hR
          subst hR
          have CN := fun x => named_core s (A + 1) x (by omega) (by omega) _ hnm
          rw [show ((A + 1 : Nat) : Int) = (A : Int) + 1 by omega] at CN
          unfold nmT at CN
          simp only at CN
          have CN := hide CN
          clear hbel hka hko hdr hg hfu hfm ht hp hLN hsl hss hno hnm c47
          rcases hway with d1 | d1
          · go_wp2_with (first | (go_at_call 26; refine (CB.out _ _ (by omega)).mono ?_; rintro e w9 ⟨rfl, hw9⟩; replace hw9 := hw9.symm; subst hw9; first | rw [HA.out] | rw [HJ.out]) | (go_at_call 50; refine (CN.out _).mono ?_; rintro e w3 ⟨rfl, hb3⟩; clear r0 r1 r2 r3 r4 r5 y0 y1 y2 y3 y4 y5 q0 q1 q2 q3 q4 q5 z0 z1 z2 z3 z4 z5; obtain ⟨⟨r0, r1, r2, r3, r4, r5⟩, ⟨y0, y1, y2, y3, y4, y5⟩⟩ := (HKa.out.below hb3).six; obtain ⟨⟨q0, q1, q2, q3, q4, q5⟩, ⟨z0, z1, z2, z3, z4, z5⟩⟩ := (HKo.out.below hb3).six; have HB3 := hide (below_t5 HBU.out hb3); have HKa3 := hide (HKa.out.below hb3); have HKo3 := hide (HKo.out.below hb3); have HDR3 := hide (HDR.out.kept hb3.size fun k _ h2 => hb3.block k h2); have hz3 : w.heap.size + 1 + 1 ≤ w3.heap.size := Nat.le_trans hz hb3.size; clear hb3))
            exact rdict_fin (Q := ReR w none) (p := ⟨0, false, 0, ⟨#[]⟩, []⟩) (ka := none) (kc := 0) (ia := none) (n := 0) (ic := 0) (q := 0) (ok := false) (st6_blk HKa3.out (.int .i64 0) (.bool false) (.int .i64 0) (.string ⟨#[]⟩) (.slice none 0 0) (.slice none 0 0)) ⟨⟨⟨0, false, 0, ⟨#[]⟩, []⟩, none, 0, none, 0, 0, 0, rfl⟩, st6_below HB3.out (Nat.le_refl _) _ _ _ _ _ _⟩ _ rfl rfl rfl rfl
          · go_wp2_with (first | (go_at_call 26; refine (CB.out _ _ (by omega)).mono ?_; rintro e w9 ⟨rfl, hw9⟩; replace hw9 := hw9.symm; subst hw9; first | rw [HA.out] | rw [HJ.out]) | (go_at_call 50; refine (CN.out _).mono ?_; rintro e w3 ⟨rfl, hb3⟩; clear r0 r1 r2 r3 r4 r5 y0 y1 y2 y3 y4 y5 q0 q1 q2 q3 q4 q5 z0 z1 z2 z3 z4 z5; obtain ⟨⟨r0, r1, r2, r3, r4, r5⟩, ⟨y0, y1, y2, y3, y4, y5⟩⟩ := (HKa.out.below hb3).six; obtain ⟨⟨q0, q1, q2, q3, q4, q5⟩, ⟨z0, z1, z2, z3, z4, z5⟩⟩ := (HKo.out.below hb3).six; have HB3 := hide (below_t5 HBU.out hb3); have HKa3 := hide (HKa.out.below hb3); have HKo3 := hide (HKo.out.below hb3); have HDR3 := hide (HDR.out.kept hb3.size fun k _ h2 => hb3.block k h2); have hz3 : w.heap.size + 1 + 1 ≤ w3.heap.size := Nat.le_trans hz hb3.size; clear hb3))
            exact rdict_fin (Q := ReR w none) (p := ⟨0, false, 0, ⟨#[]⟩, []⟩) (ka := none) (kc := 0) (ia := none) (n := 0) (ic := 0) (q := 0) (ok := false) (st6_blk HKa3.out (.int .i64 0) (.bool false) (.int .i64 0) (.string ⟨#[]⟩) (.slice none 0 0) (.slice none 0 0)) ⟨⟨⟨0, false, 0, ⟨#[]⟩, []⟩, none, 0, none, 0, 0, 0, rfl⟩, st6_below HB3.out (Nat.le_refl _) _ _ _ _ _ _⟩ _ rfl rfl rfl rfl
        | some r =>
          obtain ⟨key, j⟩ := r
          have hjb := nR_le _ _ _ _ _ _ (Nat.le_refl _) hnm
          have hj1 : A < j ∧ j ≤ s.size := by
            have h2 := hjb.2.1
            rw [List.length_drop, ← Lib.size_eq] at h2
            omega
          have hkey : (⟨key.toArray⟩ : ByteArray).size ≤ 9223372036854775807 := by
            have h3 := hjb.2.2
            have : (⟨key.toArray⟩ : ByteArray).size = key.length := by simp [ByteArray.size]
            rw [this]
            simp at h3
            omega
          rw [hnm] at hR
          simp only at hR
          have CN := fun x => named_core s (A + 1) x (by omega) (by omega) _ hnm
          rw [show ((A + 1 : Nat) : Int) = (A : Int) + 1 by omega] at CN
          unfold nmT at CN
          simp only at CN
          cases hnb : nameB key
          case false =>
            rw [hnb, if_neg (by simp)] at hR
            simp only [Option.map_none] at hR
            subst hR
            rw [hnb] at CN
            have CN := hide CN
            clear hbel hka hko hdr hg hfu hfm ht hp hLN hsl hss hno hnm c47 hjb hnb
            rcases hway with d1 | d1
            · go_wp2_with (first | (go_at_call 26; refine (CB.out _ _ (by omega)).mono ?_; rintro e w9 ⟨rfl, hw9⟩; replace hw9 := hw9.symm; subst hw9; first | rw [HA.out] | rw [HJ.out]) | (go_at_call 50; refine (CN.out _).mono ?_; rintro e w3 ⟨rfl, hb3⟩; clear r0 r1 r2 r3 r4 r5 y0 y1 y2 y3 y4 y5 q0 q1 q2 q3 q4 q5 z0 z1 z2 z3 z4 z5; obtain ⟨⟨r0, r1, r2, r3, r4, r5⟩, ⟨y0, y1, y2, y3, y4, y5⟩⟩ := (HKa.out.below hb3).six; obtain ⟨⟨q0, q1, q2, q3, q4, q5⟩, ⟨z0, z1, z2, z3, z4, z5⟩⟩ := (HKo.out.below hb3).six; have HB3 := hide (below_t5 HBU.out hb3); have HKa3 := hide (HKa.out.below hb3); have HKo3 := hide (HKo.out.below hb3); have HDR3 := hide (HDR.out.kept hb3.size fun k _ h2 => hb3.block k h2); have hz3 : w.heap.size + 1 + 1 ≤ w3.heap.size := Nat.le_trans hz hb3.size; clear hb3))
              exact rdict_fin (Q := ReR w none) (p := ⟨0, false, 0, ⟨#[]⟩, []⟩) (ka := none) (kc := 0) (ia := none) (n := 0) (ic := 0) (q := 0) (ok := false) (st6_blk HKa3.out (.int .i64 0) (.bool false) (.int .i64 0) (.string ⟨#[]⟩) (.slice none 0 0) (.slice none 0 0)) ⟨⟨⟨0, false, 0, ⟨#[]⟩, []⟩, none, 0, none, 0, 0, 0, rfl⟩, st6_below HB3.out (Nat.le_refl _) _ _ _ _ _ _⟩ _ rfl rfl rfl rfl
            · go_wp2_with (first | (go_at_call 26; refine (CB.out _ _ (by omega)).mono ?_; rintro e w9 ⟨rfl, hw9⟩; replace hw9 := hw9.symm; subst hw9; first | rw [HA.out] | rw [HJ.out]) | (go_at_call 50; refine (CN.out _).mono ?_; rintro e w3 ⟨rfl, hb3⟩; clear r0 r1 r2 r3 r4 r5 y0 y1 y2 y3 y4 y5 q0 q1 q2 q3 q4 q5 z0 z1 z2 z3 z4 z5; obtain ⟨⟨r0, r1, r2, r3, r4, r5⟩, ⟨y0, y1, y2, y3, y4, y5⟩⟩ := (HKa.out.below hb3).six; obtain ⟨⟨q0, q1, q2, q3, q4, q5⟩, ⟨z0, z1, z2, z3, z4, z5⟩⟩ := (HKo.out.below hb3).six; have HB3 := hide (below_t5 HBU.out hb3); have HKa3 := hide (HKa.out.below hb3); have HKo3 := hide (HKo.out.below hb3); have HDR3 := hide (HDR.out.kept hb3.size fun k _ h2 => hb3.block k h2); have hz3 : w.heap.size + 1 + 1 ≤ w3.heap.size := Nat.le_trans hz hb3.size; clear hb3))
              exact rdict_fin (Q := ReR w none) (p := ⟨0, false, 0, ⟨#[]⟩, []⟩) (ka := none) (kc := 0) (ia := none) (n := 0) (ic := 0) (q := 0) (ok := false) (st6_blk HKa3.out (.int .i64 0) (.bool false) (.int .i64 0) (.string ⟨#[]⟩) (.slice none 0 0) (.slice none 0 0)) ⟨⟨⟨0, false, 0, ⟨#[]⟩, []⟩, none, 0, none, 0, 0, 0, rfl⟩, st6_below HB3.out (Nat.le_refl _) _ _ _ _ _ _⟩ _ rfl rfl rfl rfl
          case true =>
            rw [hnb, if_pos rfl] at hR
            rw [hnb] at CN
            have CN := hide CN
            have hl65 : decide ((65536 : Int) < (LN : Int)) = false := by have := hLN; simp; omega
            have hJs := blanks_le s j hj1.2
            have hjJ := blanks_ge s.data.toList j
            obtain ⟨J, hJ⟩ : ∃ J, blanksV s.data.toList j = J := ⟨_, rfl⟩
            rw [hJ] at hR hJs hjJ
            have HJ := hide hJ
            have CO := hide (fun x => IH.out fu hfl J nest x hJs HN.out (hFJ J (by omega) hJs))
            clear hbel hka hko hdr hg hfu hfm ht hp hsl hss hno hnm c47 hjb hnb hJ
            cases hob : (recQ s.data.toList fu).ob J nest with
            | none =>
              rw [hob] at hR CO
              simp only [Option.map_none] at hR
              subst hR
              clear hob hLN
              rcases hway with d1 | d1
              · go_wp2_with (first | (go_at_call 26; refine (CB.out _ _ (by omega)).mono ?_; rintro e w9 ⟨rfl, hw9⟩; replace hw9 := hw9.symm; subst hw9; first | rw [HA.out] | rw [HJ.out]) | (go_at_call 50; refine (CN.out _).mono ?_; rintro e w3 ⟨rfl, hb3⟩; clear r0 r1 r2 r3 r4 r5 y0 y1 y2 y3 y4 y5 q0 q1 q2 q3 q4 q5 z0 z1 z2 z3 z4 z5; obtain ⟨⟨r0, r1, r2, r3, r4, r5⟩, ⟨y0, y1, y2, y3, y4, y5⟩⟩ := (HKa.out.below hb3).six; obtain ⟨⟨q0, q1, q2, q3, q4, q5⟩, ⟨z0, z1, z2, z3, z4, z5⟩⟩ := (HKo.out.below hb3).six; have HB3 := hide (below_t5 HBU.out hb3); have HKa3 := hide (HKa.out.below hb3); have HKo3 := hide (HKo.out.below hb3); have HDR3 := hide (HDR.out.kept hb3.size fun k _ h2 => hb3.block k h2); have hz3 : w.heap.size + 1 + 1 ≤ w3.heap.size := Nat.le_trans hz hb3.size; clear hb3) | (go_at_call 25; refine (CO.out _).mono ?_; rintro e w5 ⟨⟨p, ka5, kc5, ia5, n5, ic5, q, rfl⟩, hb5⟩; clear r0 r1 r2 r3 r4 r5 y0 y1 y2 y3 y4 y5 q0 q1 q2 q3 q4 q5 z0 z1 z2 z3 z4 z5; obtain ⟨⟨r0, r1, r2, r3, r4, r5⟩, ⟨y0, y1, y2, y3, y4, y5⟩⟩ := (HKa3.out.below hb5).six; have hls := (HKa3.out.below hb5).lt; have HB5 := hide (below_t5 HB3.out hb5); have HKa5 := hide (HKa3.out.below hb5); clear hb5))
                exact rdict_fin (Q := ReR w none) (p := ⟨0, false, 0, ⟨#[]⟩, []⟩) (ka := none) (kc := 0) (ia := none) (n := 0) (ic := 0) (q := 0) (ok := false) (Blk.below (st6_blk HKa5.out (.int .i64 0) (.bool false) (.int .i64 0) (.string ⟨#[]⟩) (.slice none 0 0) (.slice none 0 0)) ((Below.refl _ _).alloc (Nat.le_refl _) _)) ⟨⟨⟨0, false, 0, ⟨#[]⟩, []⟩, none, 0, none, 0, 0, 0, rfl⟩, (st6_below HB5.out (Nat.le_refl _) _ _ _ _ _ _).alloc (by rw [st6_size]; exact Nat.le_of_lt hls) _⟩ _ rfl rfl rfl rfl
              · go_wp2_with (first | (go_at_call 26; refine (CB.out _ _ (by omega)).mono ?_; rintro e w9 ⟨rfl, hw9⟩; replace hw9 := hw9.symm; subst hw9; first | rw [HA.out] | rw [HJ.out]) | (go_at_call 50; refine (CN.out _).mono ?_; rintro e w3 ⟨rfl, hb3⟩; clear r0 r1 r2 r3 r4 r5 y0 y1 y2 y3 y4 y5 q0 q1 q2 q3 q4 q5 z0 z1 z2 z3 z4 z5; obtain ⟨⟨r0, r1, r2, r3, r4, r5⟩, ⟨y0, y1, y2, y3, y4, y5⟩⟩ := (HKa.out.below hb3).six; obtain ⟨⟨q0, q1, q2, q3, q4, q5⟩, ⟨z0, z1, z2, z3, z4, z5⟩⟩ := (HKo.out.below hb3).six; have HB3 := hide (below_t5 HBU.out hb3); have HKa3 := hide (HKa.out.below hb3); have HKo3 := hide (HKo.out.below hb3); have HDR3 := hide (HDR.out.kept hb3.size fun k _ h2 => hb3.block k h2); have hz3 : w.heap.size + 1 + 1 ≤ w3.heap.size := Nat.le_trans hz hb3.size; clear hb3) | (go_at_call 25; refine (CO.out _).mono ?_; rintro e w5 ⟨⟨p, ka5, kc5, ia5, n5, ic5, q, rfl⟩, hb5⟩; clear r0 r1 r2 r3 r4 r5 y0 y1 y2 y3 y4 y5 q0 q1 q2 q3 q4 q5 z0 z1 z2 z3 z4 z5; obtain ⟨⟨r0, r1, r2, r3, r4, r5⟩, ⟨y0, y1, y2, y3, y4, y5⟩⟩ := (HKa3.out.below hb5).six; have hls := (HKa3.out.below hb5).lt; have HB5 := hide (below_t5 HB3.out hb5); have HKa5 := hide (HKa3.out.below hb5); clear hb5))
                exact rdict_fin (Q := ReR w none) (p := ⟨0, false, 0, ⟨#[]⟩, []⟩) (ka := none) (kc := 0) (ia := none) (n := 0) (ic := 0) (q := 0) (ok := false) (Blk.below (st6_blk HKa5.out (.int .i64 0) (.bool false) (.int .i64 0) (.string ⟨#[]⟩) (.slice none 0 0) (.slice none 0 0)) ((Below.refl _ _).alloc (Nat.le_refl _) _)) ⟨⟨⟨0, false, 0, ⟨#[]⟩, []⟩, none, 0, none, 0, 0, 0, rfl⟩, (st6_below HB5.out (Nat.le_refl _) _ _ _ _ _ _).alloc (by rw [st6_size]; exact Nat.le_of_lt hls) _⟩ _ rfl rfl rfl rfl
            | some r =>
              obtain ⟨p, T, q⟩ := r
              have hJq := BD.out _ _ _ _ _ _ hob
              rw [hob] at hR CO
              simp only at hR
              have HRN : Hid (∀ ka kc ia ic, R = ((recQ s.data.toList fu).di q nest).map (fun x => ((ss ++ [⟨key.toArray⟩]) ++ x.1, joinF (acc ++ [⟨0, 0, p, T, ka, kc, ia, ic⟩]) x.2.1, x.2.2))) := hide (fun ka kc ia ic => by
                rw [hR]
                cases (recQ s.data.toList fu).di q nest with
                | none => rfl
                | some y => simp [joinF_snoc])
              have HX := hide (show A < q ∧ q ≤ s.size ∧ acc.length + 1 ≤ q by omega)
              have HF2 := hide (hFQ q (by omega) hJq.2)
              have HKY := hide hkey
              clear hR hob hLN hFJ hFQ hjJ hJs hkey
              rcases hway with d1 | d1
              · go_wp2_with (first | (go_at_call 26; refine (CB.out _ _ (by omega)).mono ?_; rintro e w9 ⟨rfl, hw9⟩; replace hw9 := hw9.symm; subst hw9; first | rw [HA.out] | rw [HJ.out]) | (go_at_call 50; refine (CN.out _).mono ?_; rintro e w3 ⟨rfl, hb3⟩; clear r0 r1 r2 r3 r4 r5 y0 y1 y2 y3 y4 y5 q0 q1 q2 q3 q4 q5 z0 z1 z2 z3 z4 z5; obtain ⟨⟨q0, q1, q2, q3, q4, q5⟩, ⟨z0, z1, z2, z3, z4, z5⟩⟩ := (HKo.out.below hb3).six; have HB3 := hide (below_t5 HBU.out hb3); have HKa3 := hide (HKa.out.below hb3); have HKo3 := hide (HKo.out.below hb3); have HDR3 := hide (HDR.out.kept hb3.size fun k _ h2 => hb3.block k h2); have hz3 : w.heap.size + 1 + 1 ≤ w3.heap.size := Nat.le_trans hz hb3.size; clear hb3))
                refine (CO.out _).mono ?_
                rintro e w5 ⟨⟨ka5, kc5, ia5, ic5, rfl, hin⟩, hb5⟩
                have hal5 := (Below.refl w5.heap.size w5).alloc (Nat.le_refl _) (.cells (obox p ka5 kc5 ia5 (flen T) ic5) 25)
                have hko6 := (HKo3.out.below hb5).below hal5
                have hka6 := (HKa3.out.below hb5).below hal5
                clear q0 q1 q2 q3 q4 q5 z0 z1 z2 z3 z4 z5
                obtain ⟨⟨q0, q1, q2, q3, q4, q5⟩, ⟨z0, z1, z2, z3, z4, z5⟩⟩ := (HKo3.out.below hb5).six
                have hls := (HKo3.out.below hb5).lt
                obtain ⟨g, N, cap, w6, hr, hd6, hb6, hx6, hk6⟩ := DRow.key2 (w3 := w5.alloc (.cells (obox p ka5 kc5 ia5 (flen T) ic5) 25)) ⟨key.toArray⟩ ⟨0, 0, p, T, ka5, kc5, ia5, ic5⟩ HDR3.out hz3 (below_t5 hb5 hal5) (OIn.sub (only_sub (w' := w5.alloc (.cells (obox p ka5 kc5 ia5 (flen T) ic5) 25)) (by simp) fun k h1 h2 => ⟨h1, Below.heap_alloc _ _ _ h2⟩) hin) (by have h1 := HSL.out; have h2 := HLN.out; have h3 := HX.out; omega)
                rw [show (w5.alloc (.cells (obox p ka5 kc5 ia5 (flen T) ic5) 25)).heap.size = w5.heap.size + 1 by simp] at hr
                have HR6 := hide hr
                have HD6 := hide hd6
                have HX6 := hide hx6
                have HKx6 : Hid (Blk w6 w5.heap.size (obox p ka5 kc5 ia5 (flen T) ic5) 25) := hide (by have h1 := Blk.new w5 (obox p ka5 kc5 ia5 (flen T) ic5) 25; exact (hk6 w5.heap.size hb5.size (by simp)).trans h1)
                have HB6 := hide (((below_t5 HB3.out hb5).alloc (by omega) (.cells (obox p ka5 kc5 ia5 (flen T) ic5) 25)).trans (hb6.mono (by omega)))
                have HKo6 := hide (hko6.kept hb6 (by omega))
                have HKa6 := hide (hka6.kept hb6 (by omega))
                have hz6 : w.heap.size + 1 + 1 ≤ w6.heap.size := by have h1 := hb6.size; simp at h1; omega
                clear hk6 hr hd6 hx6 hb6 hko6 hka6 hal5 hin hb5
                have hD7 : DRow (w6.setCell ⟨w.heap.size + 1, 4, none⟩ (.slice (some ⟨g, 0, none⟩) N cap)) (w.heap.size + 1 + 1) (.slice (some ⟨g, 0, none⟩) N cap) (.slice ia LN ic) (ss ++ [⟨key.toArray⟩]) acc := HD6.out.kept (by simp [World.setCell]) fun k h1 h2 => Below.heap_setCell _ _ _ _ (by simp; omega)
                have hX7 : (⟨0, 0, p, T, ka5, kc5, ia5, ic5⟩ : Ent).lies (only (Free (w.heap.size + 1 + 1) (.slice (some ⟨g, 0, none⟩) N cap) (.slice ia LN ic)) (w6.setCell ⟨w.heap.size + 1, 4, none⟩ (.slice (some ⟨g, 0, none⟩) N cap))) := OIn.sub (only_sub (by simp [World.setCell]) fun k h1 h2 => ⟨h1, Below.heap_setCell _ _ _ _ (by have := h1.1; simp; omega)⟩) HX6.out
                have hs7 : (w6.setCell ⟨w.heap.size + 1, 4, none⟩ (.slice (some ⟨g, 0, none⟩) N cap)).heap.size = w6.heap.size := by simp [World.setCell]
                obtain ⟨g2, N2, cap2, w8, hr2, hd8, hb8⟩ := DRow.item2 ⟨0, 0, p, T, ka5, kc5, ia5, ic5⟩ hD7 (by rw [hs7]; exact hz6) hX7 (by have h2 := HLN.out; have h3 := HX.out; omega)
                rw [hs7] at hr2
                have HR8 := hide hr2
                have HD8 := hide hd8
                have HB8 := hide ((HB6.out.setCell (p := ⟨w.heap.size + 1, 4, none⟩) (by simp) (.slice (some ⟨g, 0, none⟩) N cap)).trans (hb8.mono (by omega)))
                have HKo8 := hide ((HKo6.out.set 4 (.slice (some ⟨g, 0, none⟩) N cap)).kept hb8 (by omega))
                have HKa8 := hide ((HKa6.out.other (b' := w.heap.size + 1) (by omega) 4 (.slice (some ⟨g, 0, none⟩) N cap)).kept hb8 (by omega))
                have hz8 : w.heap.size + 1 + 1 ≤ w8.heap.size := by have h1 := hb8.size; rw [hs7] at h1; omega
                clear hD7 hX7 hs7 hr2 hd8 hb8
                go_wp2_with (first | (at_builtin; refine Lib.wpList_append_run _ rfl _ _ _ _ rfl _ _ rfl rfl _ _ HR6.out ?_; clear q0 q1 q2 q3 q4 q5 z0 z1 z2 z3 z4 z5; obtain ⟨⟨q0, q1, q2, q3, q4, q5⟩, ⟨z0, z1, z2, z3, z4, z5⟩⟩ := HKo6.out.six; obtain ⟨⟨x0, x1, x2, x3, x4, x5⟩, _⟩ := HKx6.out.six; clear HR6) | (at_builtin; refine Lib.wpList_append_run _ rfl _ _ _ _ rfl _ _ rfl rfl _ _ HR8.out ?_; clear q0 q1 q2 q3 q4 q5 z0 z1 z2 z3 z4 z5; obtain ⟨⟨q0, q1, q2, q3, q4, q5⟩, ⟨z0, z1, z2, z3, z4, z5⟩⟩ := HKo8.out.six))
                go_roundg fu
                case measure => have := HG.out; omega
                case rel => exact ⟨q, fu, ss ++ [⟨key.toArray⟩], acc ++ [⟨0, 0, p, T, ka5, kc5, ia5, ic5⟩], (.slice (some ⟨g, 0, none⟩) N cap), (.slice (some ⟨g2, 0, none⟩) N2 cap2), rfl, hide ⟨rfl, HF2.out, Nat.le_of_lt hfl, HX.out.2.1, by have := HX.out; simp; omega, by have h1 := HSL.out; have h2 := HLN.out; simp; omega, fun x hx => (List.mem_append.1 hx).elim (HSS.out x) (fun h => by rw [List.mem_singleton.1 h]; exact HKY.out), HRN.out _ _ _ _, HB8.out.setCell (p := ⟨w.heap.size + 1, 5, none⟩) (by simp) _, HKa8.out.other (b' := w.heap.size + 1) (by omega) 5 _, HKo8.out.set 5 (.slice (some ⟨g2, 0, none⟩) N2 cap2), HD8.out.kept (by simp [World.setCell]) fun k h1 h2 => Below.heap_setCell _ _ _ _ (by simp; omega), by simp [World.setCell]; omega⟩⟩
              · go_wp2_with (first | (go_at_call 26; refine (CB.out _ _ (by omega)).mono ?_; rintro e w9 ⟨rfl, hw9⟩; replace hw9 := hw9.symm; subst hw9; first | rw [HA.out] | rw [HJ.out]) | (go_at_call 50; refine (CN.out _).mono ?_; rintro e w3 ⟨rfl, hb3⟩; clear r0 r1 r2 r3 r4 r5 y0 y1 y2 y3 y4 y5 q0 q1 q2 q3 q4 q5 z0 z1 z2 z3 z4 z5; obtain ⟨⟨q0, q1, q2, q3, q4, q5⟩, ⟨z0, z1, z2, z3, z4, z5⟩⟩ := (HKo.out.below hb3).six; have HB3 := hide (below_t5 HBU.out hb3); have HKa3 := hide (HKa.out.below hb3); have HKo3 := hide (HKo.out.below hb3); have HDR3 := hide (HDR.out.kept hb3.size fun k _ h2 => hb3.block k h2); have hz3 : w.heap.size + 1 + 1 ≤ w3.heap.size := Nat.le_trans hz hb3.size; clear hb3))
                refine (CO.out _).mono ?_
                rintro e w5 ⟨⟨ka5, kc5, ia5, ic5, rfl, hin⟩, hb5⟩
                have hal5 := (Below.refl w5.heap.size w5).alloc (Nat.le_refl _) (.cells (obox p ka5 kc5 ia5 (flen T) ic5) 25)
                have hko6 := (HKo3.out.below hb5).below hal5
                have hka6 := (HKa3.out.below hb5).below hal5
                clear q0 q1 q2 q3 q4 q5 z0 z1 z2 z3 z4 z5
                obtain ⟨⟨q0, q1, q2, q3, q4, q5⟩, ⟨z0, z1, z2, z3, z4, z5⟩⟩ := (HKo3.out.below hb5).six
                have hls := (HKo3.out.below hb5).lt
                obtain ⟨g, N, cap, w6, hr, hd6, hb6, hx6, hk6⟩ := DRow.key2 (w3 := w5.alloc (.cells (obox p ka5 kc5 ia5 (flen T) ic5) 25)) ⟨key.toArray⟩ ⟨0, 0, p, T, ka5, kc5, ia5, ic5⟩ HDR3.out hz3 (below_t5 hb5 hal5) (OIn.sub (only_sub (w' := w5.alloc (.cells (obox p ka5 kc5 ia5 (flen T) ic5) 25)) (by simp) fun k h1 h2 => ⟨h1, Below.heap_alloc _ _ _ h2⟩) hin) (by have h1 := HSL.out; have h2 := HLN.out; have h3 := HX.out; omega)
                rw [show (w5.alloc (.cells (obox p ka5 kc5 ia5 (flen T) ic5) 25)).heap.size = w5.heap.size + 1 by simp] at hr
                have HR6 := hide hr
                have HD6 := hide hd6
                have HX6 := hide hx6
                have HKx6 : Hid (Blk w6 w5.heap.size (obox p ka5 kc5 ia5 (flen T) ic5) 25) := hide (by have h1 := Blk.new w5 (obox p ka5 kc5 ia5 (flen T) ic5) 25; exact (hk6 w5.heap.size hb5.size (by simp)).trans h1)
                have HB6 := hide (((below_t5 HB3.out hb5).alloc (by omega) (.cells (obox p ka5 kc5 ia5 (flen T) ic5) 25)).trans (hb6.mono (by omega)))
                have HKo6 := hide (hko6.kept hb6 (by omega))
                have HKa6 := hide (hka6.kept hb6 (by omega))
                have hz6 : w.heap.size + 1 + 1 ≤ w6.heap.size := by have h1 := hb6.size; simp at h1; omega
                clear hk6 hr hd6 hx6 hb6 hko6 hka6 hal5 hin hb5
                have hD7 : DRow (w6.setCell ⟨w.heap.size + 1, 4, none⟩ (.slice (some ⟨g, 0, none⟩) N cap)) (w.heap.size + 1 + 1) (.slice (some ⟨g, 0, none⟩) N cap) (.slice ia LN ic) (ss ++ [⟨key.toArray⟩]) acc := HD6.out.kept (by simp [World.setCell]) fun k h1 h2 => Below.heap_setCell _ _ _ _ (by simp; omega)
                have hX7 : (⟨0, 0, p, T, ka5, kc5, ia5, ic5⟩ : Ent).lies (only (Free (w.heap.size + 1 + 1) (.slice (some ⟨g, 0, none⟩) N cap) (.slice ia LN ic)) (w6.setCell ⟨w.heap.size + 1, 4, none⟩ (.slice (some ⟨g, 0, none⟩) N cap))) := OIn.sub (only_sub (by simp [World.setCell]) fun k h1 h2 => ⟨h1, Below.heap_setCell _ _ _ _ (by have := h1.1; simp; omega)⟩) HX6.out
                have hs7 : (w6.setCell ⟨w.heap.size + 1, 4, none⟩ (.slice (some ⟨g, 0, none⟩) N cap)).heap.size = w6.heap.size := by simp [World.setCell]
                obtain ⟨g2, N2, cap2, w8, hr2, hd8, hb8⟩ := DRow.item2 ⟨0, 0, p, T, ka5, kc5, ia5, ic5⟩ hD7 (by rw [hs7]; exact hz6) hX7 (by have h2 := HLN.out; have h3 := HX.out; omega)
                rw [hs7] at hr2
                have HR8 := hide hr2
                have HD8 := hide hd8
                have HB8 := hide ((HB6.out.setCell (p := ⟨w.heap.size + 1, 4, none⟩) (by simp) (.slice (some ⟨g, 0, none⟩) N cap)).trans (hb8.mono (by omega)))
                have HKo8 := hide ((HKo6.out.set 4 (.slice (some ⟨g, 0, none⟩) N cap)).kept hb8 (by omega))
                have HKa8 := hide ((HKa6.out.other (b' := w.heap.size + 1) (by omega) 4 (.slice (some ⟨g, 0, none⟩) N cap)).kept hb8 (by omega))
                have hz8 : w.heap.size + 1 + 1 ≤ w8.heap.size := by have h1 := hb8.size; rw [hs7] at h1; omega
                clear hD7 hX7 hs7 hr2 hd8 hb8
                go_wp2_with (first | (at_builtin; refine Lib.wpList_append_run _ rfl _ _ _ _ rfl _ _ rfl rfl _ _ HR6.out ?_; clear q0 q1 q2 q3 q4 q5 z0 z1 z2 z3 z4 z5; obtain ⟨⟨q0, q1, q2, q3, q4, q5⟩, ⟨z0, z1, z2, z3, z4, z5⟩⟩ := HKo6.out.six; obtain ⟨⟨x0, x1, x2, x3, x4, x5⟩, _⟩ := HKx6.out.six; clear HR6) | (at_builtin; refine Lib.wpList_append_run _ rfl _ _ _ _ rfl _ _ rfl rfl _ _ HR8.out ?_; clear q0 q1 q2 q3 q4 q5 z0 z1 z2 z3 z4 z5; obtain ⟨⟨q0, q1, q2, q3, q4, q5⟩, ⟨z0, z1, z2, z3, z4, z5⟩⟩ := HKo8.out.six))
                go_roundg fu
                case measure => have := HG.out; omega
                case rel => exact ⟨q, fu, ss ++ [⟨key.toArray⟩], acc ++ [⟨0, 0, p, T, ka5, kc5, ia5, ic5⟩], (.slice (some ⟨g, 0, none⟩) N cap), (.slice (some ⟨g2, 0, none⟩) N2 cap2), rfl, hide ⟨rfl, HF2.out, Nat.le_of_lt hfl, HX.out.2.1, by have := HX.out; simp; omega, by have h1 := HSL.out; have h2 := HLN.out; simp; omega, fun x hx => (List.mem_append.1 hx).elim (HSS.out x) (fun h => by rw [List.mem_singleton.1 h]; exact HKY.out), HRN.out _ _ _ _, HB8.out.setCell (p := ⟨w.heap.size + 1, 5, none⟩) (by simp) _, HKa8.out.other (b' := w.heap.size + 1) (by omega) 5 _, HKo8.out.set 5 (.slice (some ⟨g2, 0, none⟩) N2 cap2), HD8.out.kept (by simp [World.setCell]) fun k h1 h2 => Below.heap_setCell _ _ _ _ (by simp; omega), by simp [World.setCell]; omega⟩⟩
end Go.Proofs.YtalmcdbdibpgkaaGreatDoor
