/-
  Joined: O5Qli, O5Qdm.
-/
import Derived.Test.YtalmcdbdibpgkaaGreatDoorBU
import Derived.Test.YtalmcdbdibpgkaaGreatDoorBQ
/-
  What the reference's list answers, over its read.
-/
namespace Go.Proofs.YtalmcdbdibpgkaaGreatDoor
open Go.RowKit Go.Deep
set_option linter.unusedVariables false

def ReC (s : ByteArray) (f : Nat) : Prop := ∀ (a nest : Nat) (w : World), a ≤ s.size → nest ≤ 33 → 3 * (s.size - a) + 1 ≤ f → Calls Tryz.prog 25 #[.string s, .int .i64 a, .int .i64 nest] w (ReR w ((recQ s.data.toList f).ob a nest))
def BdQ (s : ByteArray) : Prop := ∀ f a nest p T q, (recQ s.data.toList f).ob a nest = some (p, T, q) → a < q ∧ q ≤ s.size
theorem list_fin {Q : Ending → World → Prop} {wf : World} {B : Nat} {p : Pay} {ka : Option Addr} {kc : Nat} {ia : Option Addr} {n ic : Nat} {q : Nat} {ok : Bool} (hk : Blk wf B (obox p ka kc ia n ic) 25) (hbel : Q (.returned (.tuple #[ov p ka kc ia n ic, .int .i64 q, .bool ok])) wf) (a : Act) (h4 : a.tmps[6]?.getD undef = .pointer (some ⟨B, 0, none⟩)) (h5 : a.tmps[7]?.getD undef = .int .i64 q) (h6 : a.tmps[8]?.getD undef = .bool ok) (hd : a.defers = []) :
    bodyPost Tryz.prog Tryz.f52 Q Exit.ret a wf := by
  obtain ⟨⟨f0, f1, f2, f3, f4, f5⟩, _⟩ := hk.six
  refine bodyPost_ret (v := .tuple #[ov p ka kc ia n ic, .int .i64 q, .bool ok]) ?_ hd hbel
  simp [results, Tryz.results52, go_sem, f0, f1, f2, f3, f4, f5, h4, h5, h6]
theorem hp_byte (s : ByteArray) (A : Nat) (c : UInt8) : Lib.hasPrefix (s.data.toList.drop A) [c] = true ↔ ∃ h : A < s.size, s[A].toNat = c.toNat := by
  rcases Nat.lt_or_ge A s.size with h | h
  · rw [drop_at s A h, hp_one]
    constructor
    · intro e
      exact ⟨h, by rw [of_decide_eq_true e]⟩
    · rintro ⟨h', e⟩
      exact decide_eq_true (UInt8.toNat_inj.1 e)
  · rw [List.drop_eq_nil_of_le (by rw [← Lib.size_eq]; omega), hp_nil]
    constructor
    · intro e; cases e
    · rintro ⟨h', _⟩; omega
set_option maxRecDepth 8000 in
set_option maxHeartbeats 2000000 in
theorem list_q (s : ByteArray) (M : Nat) (ih : ∀ g, g < M → ReC s g) (bd : BdQ s) (f : Nat) (hf : f ≤ M) (a nest : Nat) (w : World) (hs : s.size ≤ 65536) (ha : a ≤ s.size) (hn : nest ≤ 33) (hfu : 3 * (s.size - a) + 2 ≤ f) :
    Calls Tryz.prog 52 #[.string s, .int .i64 a, .int .i64 nest] w (ReR w (((recQ s.data.toList f).li a nest).map fun q => (arrP, q.1, q.2))) := by
  obtain ⟨R, hR⟩ : ∃ R, (recQ s.data.toList f).li a nest = R := ⟨_, rfl⟩
  rw [hR]
  have IH := hide ih
  have BD := hide bd
  have HR0 := hide hR
  have HF := hide hf
  have HFU := hide hfu
  have HS := hide hs
  have hs' : (s.size : Int) ≤ 65536 := by omega
  have HA := hide ha
  have HN := hide hn
  have hb1 : Below w.heap.size w ((w.alloc (.cells zobj 25)).alloc (.cells (abox (.slice none 0 0)) 25)) := ((Below.refl _ _).alloc (Nat.le_refl _) _).alloc (by simp) _
  have HB1 := hide hb1
  have HKa : Hid (Blk ((w.alloc (.cells zobj 25)).alloc (.cells (abox (.slice none 0 0)) 25)) w.heap.size zobj 25) := hide ((Blk.new w _ _).below ((Below.refl _ _).alloc (Nat.le_refl _) _))
  have HKo : Hid (Blk ((w.alloc (.cells zobj 25)).alloc (.cells (abox (.slice none 0 0)) 25)) (w.heap.size + 1) (abox (.slice none 0 0)) 25) := hide (by
    have := Blk.new (w.alloc (.cells zobj 25)) (abox (.slice none 0 0)) 25
    rwa [show (w.alloc (.cells zobj 25)).heap.size = w.heap.size + 1 by simp] at this)
  have CB := hide (fun k x (hk : k ≤ s.size) => blanks_any s k x (by omega) hk)
  have HZ1 : Hid (w.heap.size + 1 + 1 ≤ ((w.alloc (.cells zobj 25)).alloc (.cells (abox (.slice none 0 0)) 25)).heap.size) := hide (by simp)
  clear ih bd hb1 hR hf hfu hs ha hn
  go_enter Tryz.func52, Tryz.ntmps52
  go_wp2_with fail
  go_loopg [1] f (fun g va wr => ∃ (k fu : Nat) (acc : List Ent) (vr : Value), va = .int .i64 k ∧ Hid (g = fu ∧ 3 * (s.size - k) + 2 ≤ fu ∧ fu ≤ M ∧ k ≤ s.size ∧ acc.length ≤ k ∧ R = ((recQ s.data.toList fu).li k nest).map (fun q => (joinF acc q.1, q.2)) ∧ Below w.heap.size w wr ∧
    Blk wr w.heap.size zobj 25 ∧ Blk wr (w.heap.size + 1) (abox vr) 25 ∧ ORow wr (w.heap.size + 1 + 1) vr acc ∧ w.heap.size + 1 + 1 ≤ wr.heap.size))
  case atStart => exact ⟨a, f, [], .slice none 0 0, rfl, hide ⟨rfl, HFU.out, HF.out, HA.out, by simp, by rw [HR0.out]; cases R <;> rfl, HB1.out, HKa.out, HKo.out, ORow.nil _ _, HZ1.out⟩⟩
  case round =>
    clear HKa HKo HB1 HR0 HFU HF HA HZ1
    obtain ⟨k, fu, acc, vr, rfl, HV⟩ := hrel
    obtain ⟨hg, hfu, hfm, hk, hal, hR, hbel, hka, hko, hor, hz⟩ := HV.out
    clear HV
    obtain ⟨fu, rfl⟩ : ∃ f', fu = f' + 1 := ⟨fu - 1, by omega⟩
    have hR : R = (liS s.data.toList (recQ s.data.toList fu) k nest).map (fun q => (joinF acc q.1, q.2)) := hR
    unfold liS at hR
    have hkA := blanks_ge s.data.toList k
    have hAs := blanks_le s k hk
    obtain ⟨A, hA⟩ : ∃ A, blanksV s.data.toList k = A := ⟨_, rfl⟩
    rw [hA] at hR hkA hAs
    have hfA : 3 * (s.size - A) + 1 ≤ fu := by omega
    have hfl : fu < M := by omega
    have hFQ : ∀ q, A < q → q ≤ s.size → 3 * (s.size - q) + 2 ≤ fu := fun q h1 h2 => by omega
    have hAL : acc.length ≤ A := by omega
    have CB1 := fun x => CB.out k x hk
    rw [hA] at CB1
    have CB1 := hide CB1
    have HBU := hide hbel
    have HKa := hide hka
    have HKo := hide hko
    have HOR := hide hor
    have HG := hide hg
    obtain ⟨ia, ic, hv, _⟩ := hor.items
    subst hv
    rw [forest_len] at HOR HKo
    rw [forest_len] at hko
    obtain ⟨LN, hLN⟩ : ∃ LN, acc.length = LN := ⟨_, rfl⟩
    have HLN := hide hLN
    rw [hLN] at HOR HKo hko
    have hA0 : (0 : Int) ≤ (A : Int) := by omega
    obtain ⟨⟨r0, r1, r2, r3, r4, r5⟩, ⟨y0, y1, y2, y3, y4, y5⟩⟩ := hka.six
    obtain ⟨⟨q0, q1, q2, q3, q4, q5⟩, ⟨z0, z1, z2, z3, z4, z5⟩⟩ := hko.six
    cases ht : Lib.hasPrefix (s.data.toList.drop A) [93]
    case true =>
      rw [ht, if_pos rfl] at hR
      simp only [Option.map_some, joinF_nil] at hR
      subst hR
      obtain ⟨hAl, hc⟩ := (hp_byte s A 93).1 ht
      have hlt : (A : Int) < (s.size : Int) := by omega
      have e93 : ((s[A].toNat : Int) == 93) = true := by rw [beq_iff_eq, hc]; rfl
      clear hbel hka hko hor hg hfu hfm ht hc hkA hAs hA hLN
      go_wp2_with (go_at_call 26; refine (CB1.out _).mono ?_; rintro e w2 ⟨rfl, rfl⟩)
      have hsub : Sub (fresh (w.heap.size + 1 + 1) w2) (fresh w.heap.size (st6 w2 w.heap.size (.int .i64 6) (.bool false) (.int .i64 0) (.string ⟨#[]⟩) (.slice none 0 0) (.slice ia LN ic))) := only_sub (Nat.le_of_eq (st6_size _ _ _ _ _ _ _ _).symm) fun k h1 _ => ⟨by omega, st6_block (w := w2) (b := w.heap.size) (k := k) (by omega) _ _ _ _ _ _⟩
      obtain ⟨ia', ic', hv, hin⟩ := oin_arr HOR.out (by have := HLN.out; omega) hsub
      simp only [Value.slice.injEq] at hv
      obtain ⟨rfl, hv2, rfl⟩ := hv
      subst hv2
      exact list_fin (Q := ReR w (some (arrP, forest acc, A + 1))) (p := arrP) (ka := none) (kc := 0) (ia := ia) (n := flen (forest acc)) (ic := ic) (q := A + 1) (ok := true) (st6_blk HKa.out (.int .i64 6) (.bool false) (.int .i64 0) (.string ⟨#[]⟩) (.slice none 0 0) (.slice ia (flen (forest acc)) ic)) ⟨⟨none, 0, ia, ic, rfl, hin⟩, st6_below HBU.out (Nat.le_refl _) _ _ _ _ _ _⟩ _ rfl rfl rfl rfl
    case false =>
      rw [ht, if_neg (by simp)] at hR
      have hcc : (A < s.size ∧ ∀ h : A < s.size, ((s[A].toNat : Int) == 93) = false) ∨ decide ((A : Int) < (s.size : Int)) = false := by
        rcases Nat.lt_or_ge A s.size with h | h
        · refine Or.inl ⟨h, fun h' => ?_⟩
          rw [beq_eq_false_iff_ne]
          intro e
          have := (hp_byte s A 93).2 ⟨h, by show _ = 93; omega⟩
          rw [ht] at this
          cases this
        · exact Or.inr (by simp; omega)
      have CO := hide (fun x => IH.out fu hfl A nest x hAs HN.out hfA)
      cases hob : (recQ s.data.toList fu).ob A nest with
      | none =>
        rw [hob] at hR CO
        simp only [Option.map_none] at hR
        subst hR
        clear hbel hka hko hor hg hfu hfm ht hob hkA hA hLN
        rcases hcc with ⟨hAl, e93⟩ | dlt
        · have hlt : (A : Int) < (s.size : Int) := by omega
          have e93 := e93 hAl
          go_wp2_with (first | (go_at_call 26; refine (CB1.out _).mono ?_; rintro e w2 ⟨rfl, rfl⟩) | (go_at_call 25; refine (CO.out _).mono ?_; rintro e w3 ⟨⟨p, ka, kc, ia2, n2, ic2, q, rfl⟩, hb3⟩; clear r0 r1 r2 r3 r4 r5 y0 y1 y2 y3 y4 y5; obtain ⟨⟨r0, r1, r2, r3, r4, r5⟩, ⟨y0, y1, y2, y3, y4, y5⟩⟩ := (HKa.out.below hb3).six; have hls := (HKa.out.below hb3).lt; have HB3 := hide (below_t5 HBU.out hb3); have HKa3 := hide (HKa.out.below hb3); clear hb3))
          exact list_fin (Q := ReR w none) (p := ⟨0, false, 0, ⟨#[]⟩, []⟩) (ka := none) (kc := 0) (ia := none) (n := 0) (ic := 0) (q := 0) (ok := false) (Blk.below (st6_blk HKa3.out (.int .i64 0) (.bool false) (.int .i64 0) (.string ⟨#[]⟩) (.slice none 0 0) (.slice none 0 0)) ((Below.refl _ _).alloc (Nat.le_refl _) _)) ⟨⟨⟨0, false, 0, ⟨#[]⟩, []⟩, none, 0, none, 0, 0, 0, rfl⟩, (st6_below HB3.out (Nat.le_refl _) _ _ _ _ _ _).alloc (by rw [st6_size]; exact Nat.le_of_lt hls) _⟩ _ rfl rfl rfl rfl
        · have dl2 : ¬ ((A : Int) < (s.size : Int)) := by simpa using dlt
          have dl3 : (s.size : Int) ≤ (A : Int) := by omega
          go_wp2_with (first | (go_at_call 26; refine (CB1.out _).mono ?_; rintro e w2 ⟨rfl, rfl⟩) | (go_at_call 25; refine (CO.out _).mono ?_; rintro e w3 ⟨⟨p, ka, kc, ia2, n2, ic2, q, rfl⟩, hb3⟩; clear r0 r1 r2 r3 r4 r5 y0 y1 y2 y3 y4 y5; obtain ⟨⟨r0, r1, r2, r3, r4, r5⟩, ⟨y0, y1, y2, y3, y4, y5⟩⟩ := (HKa.out.below hb3).six; have hls := (HKa.out.below hb3).lt; have HB3 := hide (below_t5 HBU.out hb3); have HKa3 := hide (HKa.out.below hb3); clear hb3))
          exact list_fin (Q := ReR w none) (p := ⟨0, false, 0, ⟨#[]⟩, []⟩) (ka := none) (kc := 0) (ia := none) (n := 0) (ic := 0) (q := 0) (ok := false) (Blk.below (st6_blk HKa3.out (.int .i64 0) (.bool false) (.int .i64 0) (.string ⟨#[]⟩) (.slice none 0 0) (.slice none 0 0)) ((Below.refl _ _).alloc (Nat.le_refl _) _)) ⟨⟨⟨0, false, 0, ⟨#[]⟩, []⟩, none, 0, none, 0, 0, 0, rfl⟩, (st6_below HB3.out (Nat.le_refl _) _ _ _ _ _ _).alloc (by rw [st6_size]; exact Nat.le_of_lt hls) _⟩ _ rfl rfl rfl rfl
      | some r =>
        obtain ⟨p, T, q⟩ := r
        have hAq := BD.out _ _ _ _ _ _ hob
        rw [hob] at hR CO
        simp only at hR
        have HRN : Hid (∀ ka kc ia ic, R = ((recQ s.data.toList fu).li q nest).map (fun x => (joinF (acc ++ [⟨0, 0, p, T, ka, kc, ia, ic⟩]) x.1, x.2))) := hide (fun ka kc ia ic => by
          rw [hR, show (fun x : BT Pay × Nat => (joinF (acc ++ [⟨0, 0, p, T, ka, kc, ia, ic⟩]) x.1, x.2)) = fun x => (joinF acc (.node 0 0 p T x.1), x.2) from funext fun x => by rw [joinF_snoc]]
          cases (recQ s.data.toList fu).li q nest with
          | none => rfl
          | some y => rfl)
        have hl65 : decide ((65536 : Int) < (LN : Int)) = false := by have := hLN; simp; omega
        have AP : Hid (∀ ka kc ia2 ic2 w3, Below wr.heap.size wr w3 → OIn (fresh wr.heap.size w3) p T ka kc ia2 ic2 → ∃ g cap w4, (Builtin.append_ #[23, 23] 23 #[.slice ia LN ic, .slice (some ⟨w3.heap.size + 1, 0, none⟩) 1 1]).run Tryz.prog ((w3.alloc (.cells (obox p ka kc ia2 (flen T) ic2) 25)).alloc (.cells (obox p ka kc ia2 (flen T) ic2) 25)) = .ok (.slice (some ⟨g, 0, none⟩) (LN + 1) cap) w4 ∧
            ORow w4 (w.heap.size + 1 + 1) (.slice (some ⟨g, 0, none⟩) (LN + 1) cap) (acc ++ [⟨0, 0, p, T, ka, kc, ia2, ic2⟩]) ∧ Below (w.heap.size + 1 + 1) (w3.alloc (.cells (obox p ka kc ia2 (flen T) ic2) 25)) w4) := hide (fun ka kc ia2 ic2 w3 h3 hin => by
          have hb := (Below.refl w3.heap.size w3).alloc (Nat.le_refl _) (.cells (obox p ka kc ia2 (flen T) ic2) 25)
          have hb' := below_t5 h3 hb
          obtain ⟨g, cap, w4, h1, h2, h4, _⟩ := app_obj (W1 := w3.alloc (.cells (obox p ka kc ia2 (flen T) ic2) 25)) ⟨0, 0, p, T, ka, kc, ia2, ic2⟩ HOR.out hb'.size (fun k _ h2 => hb'.block k h2) hz (OIn.sub (only_sub (w' := w3.alloc (.cells (obox p ka kc ia2 (flen T) ic2) 25)) (by simp) fun k h1 h2 => ⟨h1, Below.heap_alloc _ _ _ h2⟩) hin) (by have := hLN; omega) (w3.heap.size + 1) (by simp)
          rw [hLN] at h1 h2
          exact ⟨g, cap, w4, h1, h2, h4⟩)
        clear hbel hka hko hor hg hfu hfm ht hob hkA hA hLN hR r0 r1 r2 r3 r4 r5 y0 y1 y2 y3 y4 y5
        rcases hcc with ⟨hAl, e93⟩ | dlt
        · have hlt : (A : Int) < (s.size : Int) := by omega
          have e93 := e93 hAl
          go_wp2_with (first | (go_at_call 26; refine (CB1.out _).mono ?_; rintro e w2 ⟨rfl, rfl⟩) | (go_at_call 25; refine (CO.out _).mono ?_; rintro e w3 ⟨⟨ka, kc, ia2, ic2, rfl, hin⟩, hb3⟩; clear q0 q1 q2 q3 q4 q5 z0 z1 z2 z3 z4 z5; obtain ⟨⟨q0, q1, q2, q3, q4, q5⟩, ⟨z0, z1, z2, z3, z4, z5⟩⟩ := (HKo.out.below hb3).six; have hls := (HKo.out.below hb3).lt; obtain ⟨g, cap, w4, hr, ho, hb4⟩ := AP.out ka kc ia2 ic2 w3 hb3 hin; have HR := hide hr; have HO4 := hide ho; have HB3 := hide (below_t5 HBU.out hb3); have HB4 := hide hb4; have HKo4 := hide (((HKo.out.below hb3).below ((Below.refl w3.heap.size w3).alloc (Nat.le_refl _) (.cells (obox p ka kc ia2 (flen T) ic2) 25))).kept hb4 (by omega)); have HKa4 := hide (((HKa.out.below hb3).below ((Below.refl w3.heap.size w3).alloc (Nat.le_refl _) (.cells (obox p ka kc ia2 (flen T) ic2) 25))).kept hb4 (by omega)); clear hb3 hb4 hr ho hin) | (at_builtin; refine Lib.wpList_append_run _ rfl _ _ _ _ rfl _ _ rfl rfl _ _ HR.out ?_; clear q0 q1 q2 q3 q4 q5 z0 z1 z2 z3 z4 z5; obtain ⟨⟨q0, q1, q2, q3, q4, q5⟩, ⟨z0, z1, z2, z3, z4, z5⟩⟩ := HKo4.out.six))
          have hsz4 : w.heap.size + 1 + 1 ≤ w4.heap.size := by have h1 := HKo4.out.lt; omega
          go_roundg fu
          case measure => have := HG.out; omega
          case rel => exact ⟨q, fu, acc ++ [⟨0, 0, p, T, ka, kc, ia2, ic2⟩], (.slice (some ⟨g, 0, none⟩) (LN + 1) cap), rfl, hide ⟨rfl, hFQ q hAq.1 hAq.2, Nat.le_of_lt hfl, hAq.2, by simp; omega, HRN.out _ _ _ _, (HB3.out.alloc (by omega) _).trans (HB4.out.mono (by omega)) |>.setCell (p := ⟨w.heap.size + 1, 5, none⟩) (by simp) _, HKa4.out.other (b' := w.heap.size + 1) (by omega) 5 _, HKo4.out.set 5 (.slice (some ⟨g, 0, none⟩) (LN + 1) cap), HO4.out.kept (by simp [World.setCell]) fun k h1 h2 => Below.heap_setCell _ _ _ _ (by simp; omega), by simp [World.setCell]; omega⟩⟩
        · exfalso
          have := of_decide_eq_false dlt
          omega
end Go.Proofs.YtalmcdbdibpgkaaGreatDoor
/-
  A pair more for a dictionary whose object was read ahead of its key's row.
-/
namespace Go.Proofs.YtalmcdbdibpgkaaGreatDoor
open Go.RowKit Go.Deep
set_option linter.unusedVariables false

abbrev Free (B : Nat) (vk vr : Value) (k : Nat) : Prop := B ≤ k ∧ vr.ownBlock ≠ some k ∧ ¬ OwnOf vk k
theorem ORowE.appended2 {E : Nat → Prop} {w w1 w2 : World} {B g cap : Nat} {v : Value} {l : List Ent} {x : Ent} (h : ORowE E w B v l) (hs : w.heap.size ≤ w1.heap.size) (hk : ∀ k, B ≤ k → k < w.heap.size → w1.heap[k]? = w.heap[k]?)
    (hx : x.lies (only (fun k => B ≤ k ∧ v.ownBlock ≠ some k ∧ ¬ E k) w)) (hown : w2.ownsRow B 25 6 (.slice (some ⟨g, 0, none⟩) (l.length + 1) cap) (l.length + 1) (ecells l ++ x.cells)) (hg : w1.grownBy w2 v.ownBlock) (hat : v.ownBlock = some g ∨ w1.heap.size ≤ g) :
    ORowE E w2 B (.slice (some ⟨g, 0, none⟩) (l.length + 1) cap) (l ++ [x]) := by
  have hb : ∀ k, k < w1.heap.size → v.ownBlock ≠ some k → w2.heap[k]? = w1.heap[k]? := fun k h1 h2 => hg.block k h1 (fun h => h2 h.symm)
  have hne : ∀ k, k < w.heap.size → v.ownBlock ≠ some k → (Value.slice (some ⟨g, 0, none⟩) (l.length + 1) cap).ownBlock ≠ some k := fun k h1 h2 e => by
    have e : g = k := by simpa [Value.ownBlock] using e
    rcases hat with ha | ha
    · exact h2 (by rw [ha, e])
    · omega
  refine ⟨by rw [ecells_append]; simpa using hown, fun y hy => ?_⟩
  rcases List.mem_append.1 hy with hy | hy
  · refine OIn.sub (only_sub (Nat.le_trans hs hg.size) fun k h1 h2 => ⟨⟨⟨h1.1.1, hne k h2 h1.1.2⟩, h1.2⟩, ?_⟩) (h.2 y hy)
    rw [hb k (by omega) h1.1.2, hk k h1.1.1 h2]
  · obtain rfl : y = x := by simpa using hy
    refine OIn.sub (only_sub (Nat.le_trans hs hg.size) fun k h1 h2 => ⟨⟨⟨h1.1, hne k h2 h1.2.1⟩, h1.2.2⟩, ?_⟩) hx
    rw [hb k (by omega) h1.2.1, hk k h1.1 h2]
theorem DRow.item2 {W : World} {B : Nat} {vk vr : Value} {ss : List ByteArray} {l : List Ent} (x : Ent) (h : DRow W B vk vr ss l) (hB : B ≤ W.heap.size) (hx : x.lies (only (Free B vk vr) W)) (hn : l.length + 1 ≤ 1599289640401) :
    ∃ g N cap w2, (Builtin.append_ #[23, 23] 23 #[vr, .slice (some ⟨W.heap.size, 0, none⟩) 1 1]).run Tryz.prog (W.alloc (.cells x.cells.toArray 25)) = .ok (.slice (some ⟨g, 0, none⟩) N cap) w2 ∧ DRow w2 B vk (.slice (some ⟨g, 0, none⟩) N cap) ss (l ++ [x]) ∧ Below B W w2 := by
  have hEl : ∀ k, OwnOf vk k → k < W.heap.size := fun k e => (World.ownsRow.lt h.keys k e).2
  obtain ⟨i0, hi, hz0, hz1, hz2⟩ := info_parts5 info_obj
  have hown : (W.alloc (.cells x.cells.toArray 25)).ownsRow B 25 6 vr l.length (ecells l) := World.ownsRow.alloc h.items.1 _
  obtain ⟨g, cap, w2, hr, ho, hg, hat, hlt⟩ := run_append_lies (P := Tryz.prog) (W.alloc (.cells x.cells.toArray 25)) 23 23 B 25 i0 _ 6 88 Tryz.underlying23 hi hz0 hz1 hz2 rfl (by decide) vr l.length (ecells l) hown ⟨W.heap.size, 0, none⟩ 1 1 x.cells rfl
    (fun j u hu => by rw [Go.WideShapes.add_plain, Nat.zero_add, World.cell?_alloc_at _ _ _ _ rfl]; simpa using hu) (fun u hu => by simp [Ent.cells] at hu; rcases hu with rfl | rfl | rfl | rfl | rfl | rfl <;> rfl) (by decide) (by unfold maxLen; omega) (by omega) (by simp; omega) (W.heap.size + 1) (by simp)
  have hat' : vr.ownBlock = some g ∨ (W.alloc (.cells x.cells.toArray 25)).heap.size ≤ g := by
    rcases hat with ha | ha
    · exact Or.inl ha
    · exact Or.inr (by rw [ha]; simp)
  have hbb : Below B W w2 := ((Below.refl B W).alloc (by omega) _).grown hg (by simp; omega) fun k hk' => (World.ownsRow.lt h.items.1 k hk').1
  have hkk : ∀ k, k < W.heap.size → vr.ownBlock ≠ some k → w2.heap[k]? = W.heap[k]? := fun k h1 h2 => by
    rw [hg.block k (by simp; omega) (fun e => h2 e.symm), Below.heap_alloc _ _ _ h1]
  refine ⟨g, _, cap, w2, hr, ⟨h.keys.keep fun g' e h7 h8 => ?_, ?_, fun g' hg' e => ?_⟩, hbb⟩
  · exact hkk g' h8 (fun e2 => h.apart g' e2 e)
  · exact h.items.appended2 (w1 := W.alloc (.cells x.cells.toArray 25)) (by simp) (fun k h1 h2 => Below.heap_alloc _ _ _ h2) hx ho hg hat'
  · have e' : g = g' := by simpa [Value.ownBlock] using hg'
    subst e'
    rcases hat' with hh | hh
    · exact h.apart g hh e
    · have := hEl g e; simp at hh; omega
theorem DRow.key2 {W w3 : World} {B : Nat} {vk vr : Value} {ss : List ByteArray} {l : List Ent} (y : ByteArray) (x : Ent) (h : DRow W B vk vr ss l) (hB : B ≤ W.heap.size) (hb : Below W.heap.size W w3) (hx : x.lies (fresh W.heap.size w3)) (hn : ss.length + 1 ≤ 8796093022208) :
    ∃ g N cap w2, (Builtin.append_ #[22, 22] 22 #[vk, .slice (some ⟨w3.heap.size, 0, none⟩) 1 1]).run Tryz.prog (w3.alloc (.cells #[.string y] 9)) = .ok (.slice (some ⟨g, 0, none⟩) N cap) w2 ∧ DRow w2 B (.slice (some ⟨g, 0, none⟩) N cap) vr (ss ++ [y]) l ∧ Below B w3 w2 ∧ x.lies (only (Free B (.slice (some ⟨g, 0, none⟩) N cap) vr) w2) ∧ ∀ k, W.heap.size ≤ k → k < w3.heap.size → w2.heap[k]? = w3.heap[k]? := by
  have h' : DRow w3 B vk vr ss l := h.kept hb.size fun k _ h2 => hb.block k h2
  obtain ⟨g, N, cap, w2, h1, h2, h3, h4, h5⟩ := app_str y h'.keys (Nat.le_trans hB hb.size) hn
  have hEE : ∀ k, k < w3.heap.size → OwnOf (.slice (some ⟨g, 0, none⟩) N cap) k → OwnOf vk k := fun k hk e => by
    have e : g = k := by simpa [OwnOf, Value.ownBlock] using e
    subst e
    rcases h5 with h | h
    · exact h
    · omega
  refine ⟨g, N, cap, w2, h1, ⟨h2, h'.items.keep h3.size (fun k _ h7 h8 => h4 k h7 h8) hEE h'.apart, fun g' hg' e => ?_⟩, h3, ?_, fun k h6 h7 => h4 k h7 (fun e => by have := (World.ownsRow.lt h.keys k e).2; omega)⟩
  · exact h'.apart g' hg' (hEE g' (World.ownsRow.lt h'.items.1 g' hg').2 e)
  · refine OIn.sub (only_sub h3.size fun k h6 h7 => ⟨⟨by omega, fun e => ?_, fun e => ?_⟩, ?_⟩) hx
    · exact h4 k h7 (fun e => by have := (World.ownsRow.lt h.keys k e).2; omega)
    · have := (World.ownsRow.lt h.items.1 k e).2; omega
    · have := (World.ownsRow.lt h.keys k (hEE k h7 e)).2; omega
end Go.Proofs.YtalmcdbdibpgkaaGreatDoor
