/-
  The law ObjOwn, walked: of any text.
-/
import Derived.Test.YtalmcdbdibpgkaaGreatDoorO5Spl
import Derived.Test.YtalmcdbdibpgkaaGreatDoorBZ
namespace Go.Proofs.YtalmcdbdibpgkaaGreatDoor
open Go.RowKit Go.Deep
set_option linter.unusedVariables false

/- the blocks that a call has made between two worlds, and that may be written -/
def Mk (B : Nat) (w : World) (k : Nat) : Prop := B ≤ k ∧ k < w.heap.size ∧ ∃ o, w.heap[k]? = some o ∧ Unf o
theorem mk_of {B : Nat} {w : World} {p : Addr} {v : Value} (h : (fresh B w).cell? p = some v) : Mk B w p.block ∧ w.cell? p = some v := by
  obtain ⟨h1, ⟨o, ho, hu⟩, h3⟩ := only_cell h
  refine ⟨⟨h1, ?_, o, ho, hu⟩, h3⟩
  rcases Nat.lt_or_ge p.block w.heap.size with hl | hl
  · exact hl
  · rw [Array.getElem?_eq_none hl] at ho; cases ho
theorem Strs.sc {B : Nat} {w : World} {a : Option Addr} {ss : List ByteArray} (h : Strs (fresh B w) a ss) : SC w (Mk B w) a ss.length := by
  rcases h with h | ⟨b, off, h1, h2, h3⟩
  · exact Or.inl (by rw [h]; rfl)
  · rcases Nat.eq_zero_or_pos ss.length with h0 | h0
    · exact Or.inl h0
    · exact Or.inr ⟨b, off, h1, (mk_of (h3 0 h0)).1, fun i hi => ⟨_, (mk_of (h3 i hi)).2⟩⟩
theorem Rows.wr {B : Nat} {w : World} : ∀ {T : BT Pay} {b off : Nat}, Rows (fresh B w) T b off → WR w (Mk B w) T b off
  | .nil, _, _, _ => trivial
  | .node _ _ p T N, b, off, h => by
    obtain ⟨⟨ka, kc, ia, ic, ⟨c0, c1, c2, c3, c4, c5⟩, hok, ⟨hs, hk⟩, h1, h2, h3⟩, hN⟩ := h
    refine ⟨⟨(mk_of c0).1, p.kind, p.flag, p.num, p.text, ka, p.keys.length, kc, ia, flen T, ic, ⟨(mk_of c0).2, (mk_of c1).2, (mk_of c2).2, (mk_of c3).2, (mk_of c4).2, (mk_of c5).2⟩, ⟨hk.1.1, hk.2⟩, hs.sc, ⟨h1.1, h2⟩, ?_⟩, Rows.wr hN⟩
    rcases h3 with h3 | ⟨b', off', e, hl, hT⟩
    · exact Or.inl h3
    · exact Or.inr ⟨rfl, b', off', e, Rows.wr hT⟩
theorem OIn.wob {B : Nat} {w : World} {p : Pay} {T : BT Pay} {ka ia : Option Addr} {kc ic : Nat} (h : OIn (fresh B w) p T ka kc ia ic) : WOb w (Mk B w) T ka p.keys.length kc ia (flen T) ic := by
  obtain ⟨hok, ⟨hs, hk⟩, h1, h2, h3⟩ := h
  refine ⟨⟨hk.1.1, hk.2⟩, hs.sc, ⟨h1.1, h2⟩, ?_⟩
  rcases h3 with h3 | ⟨b', off', e, hl, hT⟩
  · exact Or.inl h3
  · exact Or.inr ⟨rfl, b', off', e, Rows.wr hT⟩
theorem WOb.sub {w w' : World} {S : Nat → Prop} (hb : Sub w w') {T : BT Pay} {ka ia : Option Addr} {kl kc n ic : Nat} (h : WOb w S T ka kl kc ia n ic) : WOb w' S T ka kl kc ia n ic := by
  obtain ⟨h1, h2, h3, h4⟩ := h
  refine ⟨h1, h2.sub hb, h3, ?_⟩
  rcases h4 with h4 | ⟨e, b', off', e', h4⟩
  · exact Or.inl h4
  · exact Or.inr ⟨e, b', off', e', h4.sub hb⟩
theorem Mk.frozen {B : Nat} {w : World} {k : Nat} (h : Mk B w k) (j : Nat) : w.frozen? ⟨k, j, none⟩ = false := by
  obtain ⟨_, _, o, ho, hu⟩ := h
  unfold World.frozen?
  simp only [ho]
  cases o with
  | cells c t f =>
    have := hu c t f rfl
    subst this
    simp
  | _ => rfl
theorem Sp.fresh {S : Nat → Prop} {w w' : World} (h : Sp S w w') {B : Nat} (hS : ∀ k, S k → k < B) : Sub (fresh B w) w' := by
  refine ⟨by rw [Go.Proofs.YtalmcdbdibpgkaaGreatDoor.fresh, only_size]; exact h.size, fun p v hv => ?_⟩
  obtain ⟨⟨h1, h2, _⟩, h3⟩ := mk_of hv
  rw [World.cell?_of_block (w := w) (w' := w') (h.block _ h2 (fun hs => by have := hS _ hs; omega))]
  exact h3
theorem Sp.below {S : Nat → Prop} {w w' W : World} (h : Sp S w w') (h0 : Below W.heap.size W w) (hS : ∀ k, S k → W.heap.size ≤ k) : Below W.heap.size W w' :=
  h0.trans ⟨h.os, h.tape, h.output, h.size, fun k hk => h.block k (Nat.lt_of_lt_of_le hk h0.size) (fun hs => by have := hS _ hs; omega)⟩
theorem Sp.blk {S : Nat → Prop} {w w' : World} (h : Sp S w w') {b : Nat} {cs : Array Value} {t : TypeId} (hb : Blk w b cs t) (hS : ¬ S b) : Blk w' b cs t := by
  have hl := hb.lt
  unfold Blk at *
  rw [h.block b hl hS]; exact hb
def AnF (p : Pay) (T : BT Pay) (q : Nat) (er : Int) (w : World) (e : Ending) (w' : World) : Prop :=
  (∃ ka kc ia ic, e = .returned (.tuple #[ov p ka kc ia (flen T) ic, .int .i64 q, .int .i64 er]) ∧ OIn (fresh w.heap.size w') p T ka kc ia ic) ∧ Below w.heap.size w w'
theorem both_own (s : ByteArray) (hs : s.size ≤ 20000) : ∃ p T q er, (∀ w, Glo5 w → Calls Tryz.prog 14 #[.string s, .int .i64 0] w (AnF p T q er w)) ∧ (∀ w, Calls Tryz.prog 15 #[.string s, .int .i64 0] w (AnF p T q er w)) := by
  obtain ⟨R, h1, h2⟩ := both_parse s 0 (by omega) (Nat.zero_le _)
  rcases R with _ | ⟨p, T, q⟩
  · have key : ∀ {w e w'}, Pq w none e w' → AnF (zp 0 false 0) .nil 0 50 w e w' := fun h => ⟨⟨none, 0, none, 0, h.1, oin_leaf _ _ (zp_okq 0 false 0 (by omega) (by omega)) rfl⟩, h.2⟩
    exact ⟨_, _, _, _, fun w hg => (h1 w hg).mono fun e w' h => key h, fun w => (h2 w).mono fun e w' h => key h⟩
  · exact ⟨p, T, q, 0, fun w hg => (h1 w hg).mono fun e w' h => h, fun w => (h2 w).mono fun e w' h => h⟩
set_option maxRecDepth 8000 in
set_option maxHeartbeats 2000000 in
theorem objOwn_walk (s : ByteArray) (w : World) (hg : Glo5 w) :
    Calls Tryz.prog 7 #[.string s] w fun e w' => e = .returned (.bool true) ∧ Below w.heap.size w w' := by
  have CW := hide wakes_any
  by_cases hs : s.size ≤ 20000
  case neg =>
    have h1 : decide ((20000 : Int) < (s.size : Int)) = true := by simp; omega
    go_enter Tryz.func7, Tryz.ntmps7
    go_wp2_with (go_at_call 9; refine (CW.out _).mono ?_; rintro e w7 ⟨rfl, h7⟩)
    go_ret
    exact ⟨rfl, h7⟩
  case pos =>
    have h1 : decide ((20000 : Int) < (s.size : Int)) = false := by simp; omega
    obtain ⟨p, T, q, er, C1, C2⟩ := both_own s hs
    have C2 := hide C2
    have HG := hide hg
    have CA := hide (C1 w hg)
    have C1 := hide C1
    clear hs hg
    go_enter Tryz.func7, Tryz.ntmps7
    go_wp2_with fail
    refine CA.out.mono ?_
    rintro e w1 ⟨⟨ka, kc, ia, ic, rfl, hin1⟩, hb1⟩
    have hal1 := (Below.refl w1.heap.size w1).alloc (Nat.le_refl _) (.cells (obox p ka kc ia (flen T) ic) 25)
    have HB1 := hide (below_t5 hb1 hal1)
    have HA1 := hide hal1
    have HX1 := hide (Blk.new w1 (obox p ka kc ia (flen T) ic) 25)
    have HO := hide hin1.wob
    have hz1 : w.heap.size ≤ w1.heap.size := hb1.size
    have CB := hide (C1.out _ (HG.out.below HB1.out))
    clear hin1 hb1 hal1 CA C1
    go_wp2_with fail
    refine CB.out.mono ?_
    rintro e w2 ⟨⟨kb, kd, ib, id, rfl, hin2⟩, hb2⟩
    have hal2 := (Below.refl w2.heap.size w2).alloc (Nat.le_refl _) (.cells (obox p kb kd ib (flen T) id) 25)
    have HB2 := hide (below_t5 (below_t5 HB1.out hb2) hal2)
    have HA2 := hide (below_t5 (below_t5 HA1.out hb2) hal2)
    have HX2 := hide ((HX1.out.below hb2).below hal2)
    have HY2 := hide (Blk.new w2 (obox p kb kd ib (flen T) id) 25)
    have HI2 := hide (hin2.sub (fresh_le (Nat.le_refl _) hal2))
    have hz2 : w1.heap.size + 1 ≤ w2.heap.size := by have := hb2.size; simpa using this
    clear hb2 hal2 hin2 CB
    go_wp2_with fail
    refine (C2.out _).mono ?_
    rintro e w3 ⟨⟨kx, ky, ix, iy, rfl, hin3⟩, hb3⟩
    have hal3 := (Below.refl w3.heap.size w3).alloc (Nat.le_refl _) (.cells (obox p kx ky ix (flen T) iy) 25)
    have HB3 := hide (below_t5 (below_t5 HB2.out hb3) hal3)
    have HA3 := hide (below_t5 (below_t5 HA2.out hb3) hal3)
    have HX3 := hide ((HX2.out.below hb3).below hal3)
    have HY3 := hide ((HY2.out.below hb3).below hal3)
    have HZ3 := hide (Blk.new w3 (obox p kx ky ix (flen T) iy) 25)
    have HI3 := hide ((HI2.out.sub (fresh_le (Nat.le_refl _) hb3)).sub (fresh_le (Nat.le_refl _) hal3))
    have HJ3 := hide (hin3.sub (fresh_le (Nat.le_refl _) hal3))
    have hz3 : w2.heap.size + 1 ≤ w3.heap.size := by have := hb3.size; simpa using this
    have CS := hide (spoil_core (Mk w.heap.size w1) _ T p.kind p.flag p.num p.text ka p.keys.length kc ia (flen T) ic (w3.alloc (.cells (obox p kx ky ix (flen T) iy) 25)) (Nat.lt_succ_self _) (HO.out.sub (Sub.of_below HA3.out)) (fun k hk => Nat.lt_of_lt_of_le hk.2.1 HA3.out.size) (fun k j hk => (HA3.out.frozen (p := ⟨k, j, none⟩) hk.2.1).trans (hk.frozen j)))
    obtain ⟨⟨x0, x1, x2, x3, x4, x5⟩, _⟩ := HX3.out.six
    clear hb3 hal3 hin3 C2 HO
    go_wp2_with fail
    refine CS.out.mono ?_
    rintro e w4 ⟨rfl, hsp⟩
    have hM : ∀ k, Mk w.heap.size w1 k → k < w1.heap.size := fun k hk => hk.2.1
    have H4 := hide (hsp.below HB3.out (fun k hk => hk.1))
    obtain ⟨⟨y0, y1, y2, y3, y4, y5⟩, _⟩ := (hsp.blk HY3.out (fun hk => by have := hM _ hk; omega)).six
    obtain ⟨⟨t0, t1, t2, t3, t4, t5⟩, _⟩ := (hsp.blk HZ3.out (fun hk => by have := hM _ hk; omega)).six
    have CE := hide (rsame_any p p T T kb kx kd ky ib ix id iy w4 (HI3.out.sub (hsp.fresh (fun k hk => by have := hM _ hk; simp; omega))) (HJ3.out.sub (hsp.fresh (fun k hk => by have := hM _ hk; simp; omega))))
    rw [sameV_refl] at CE
    clear x0 x1 x2 x3 x4 x5 hsp CS HI3 HJ3 HX3 HY3 HZ3 hM
    go_wp2_with (first
      | (go_at_call 13; refine CE.out.mono ?_; rintro e w6 ⟨rfl, h6⟩; have H6 := hide (below_t5 H4.out h6); clear h6)
      | (go_at_call 9; refine (CW.out _).mono ?_; rintro e w7 ⟨rfl, h7⟩; have H7 := hide (below_t5 H6.out h7); clear h7))
    go_ret
    exact ⟨rfl, H7.out⟩
end Go.Proofs.YtalmcdbdibpgkaaGreatDoor
