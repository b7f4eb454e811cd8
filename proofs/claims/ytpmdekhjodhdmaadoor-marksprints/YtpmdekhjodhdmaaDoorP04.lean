/-
  Joined: U4Row, U4ROne, U4RP.
-/
import Derived.Laws.BytesArg
import Derived.Laws.IdiomStrings
import Derived.Laws.OwnMore
import Derived.OwnWalk
import Derived.Test.YtpmdekhjodhdmaaDoorP00
import Derived.Test.YtpmdekhjodhdmaaDoorP02
import Derived.Test.YtpmdekhjodhdmaaDoorP03
namespace Go.Proofs.YtpmdekhjodhdmaaDoor
open Go.RowKit
theorem info_int : (Tryd.prog.info? 3).map (fun i => (i.zero, i.size, i.bytes)) = some (some (.int .i64 0), 1, 8) := by kernel_rfl
theorem info_u8 : (Tryd.prog.info? 5).map (fun i => (i.zero, i.size, i.bytes)) = some (some (.int .u8 0), 1, 1) := by kernel_rfl
def bcell (b : UInt8) : Value := Value.int .u8 (b.toNat : Int)
def IRow (w : World) (B : Nat) (v : Value) (zs : List Int) : Prop := w.ownsRow B 3 1 v zs.length (zs.map (Value.int .i64))
def BRow (w : World) (B : Nat) (v : Value) (ys : List UInt8) : Prop := w.ownsRow B 5 1 v ys.length (ys.map bcell)
theorem IRow.nil (w : World) (B : Nat) : IRow w B (.slice none 0 0) [] := World.ownsRow_nil _ _ _ _
theorem BRow.nil (w : World) (B : Nat) : BRow w B (.slice none 0 0) [] := World.ownsRow_nil _ _ _ _
theorem IRow.lst {w : World} {B : Nat} {v : Value} {zs : List Int} (h : IRow w B v zs) :
    ∃ a cap, v = .slice a zs.length cap ∧ Lst w a zs ∧ zs.length ≤ cap ∧ cap ≤ 9223372036854775807 := by
  have h' := h
  obtain ⟨_, ⟨h0, h1⟩ | ⟨g, cap, cur, hv, hg, hh, hc, hm, _⟩⟩ := h'
  · exact ⟨none, 0, by rw [h0, h1], Or.inl (List.eq_nil_of_length_eq_zero h1), by omega, by omega⟩
  · refine ⟨some ⟨g, 0, none⟩, cap, hv, ?_, hc, by unfold maxLen at hm; exact hm⟩
    rw [hv] at h
    refine Or.inr ⟨g, 0, rfl, (World.ownsRow.lt h g rfl).2, fun i hi => ?_⟩
    rw [Nat.zero_add, World.ownsRow.cellAt h i (by omega), List.getElem?_map, List.getElem?_eq_getElem hi, List.getD_eq_getElem?_getD, List.getElem?_eq_getElem hi]
    rfl
theorem BRow.text {w : World} {B : Nat} {v : Value} {ys : List UInt8} (h : BRow w B v ys) :
    (convert 56 9 v).run Tryd.prog w = .ok (.string ⟨ys.toArray⟩) w := by
  have h' := h
  obtain ⟨_, ⟨h0, h1⟩ | ⟨g, cap, cur, hv, _⟩⟩ := h'
  · obtain rfl : ys = [] := List.eq_nil_of_length_eq_zero h1
    rw [h0]
    exact run_convert_bytes_nil w 56 5 Tryd.underlying56 Tryd.underlying5 0 0 9 Tryd.underlying9
  · rw [hv] at h ⊢
    refine run_convert_bytes_back (P := Tryd.prog) w 56 9 5 ⟨g, 0, none⟩ cap ys Tryd.underlying56 Tryd.underlying5 Tryd.underlying9 ?_
    intro k hk
    rw [Go.WideShapes.add_plain, Nat.zero_add, World.ownsRow.cellAt h k (by omega), List.getElem?_map, List.getElem?_eq_getElem hk]
    rfl
theorem own_below {w0 w w' : World} {e : TypeId} {size n : Nat} {v : Value} {xs : List Value} (h : w.ownsRow w0.heap.size e size v n xs) (_h0 : Below w0.heap.size w0 w) (hb : Below w.heap.size w w') : w'.ownsRow w0.heap.size e size v n xs := by
  obtain ⟨h1, h2 | ⟨g, cap, cur, hv, hg, hh, hr⟩⟩ := h
  · exact ⟨h1, Or.inl h2⟩
  · have hlt : g < w.heap.size := by
      rcases Nat.lt_or_ge g w.heap.size with h | h
      · exact h
      · rw [Array.getElem?_eq_none h] at hh; simp at hh
    exact ⟨h1, Or.inr ⟨g, cap, cur, hv, hg, by rw [hb.block g hlt]; exact hh, hr⟩⟩
theorem lit_text (w : World) (cs : Array Value) (ys : List UInt8) (n : Nat) (hn : ys.length = n) (h : cs = (ys.map bcell).toArray) :
    (convert 56 9 (.slice (some ⟨w.heap.size, 0, none⟩) n n)).run Tryd.prog (w.alloc (.cells cs 5)) = .ok (.string ⟨ys.toArray⟩) (w.alloc (.cells cs 5)) := by
  subst hn h
  refine run_convert_bytes_back (P := Tryd.prog) _ 56 9 5 ⟨w.heap.size, 0, none⟩ _ ys Tryd.underlying56 Tryd.underlying5 Tryd.underlying9 ?_
  intro k hk
  rw [Go.WideShapes.add_plain, Nat.zero_add, World.cell?_alloc_at _ _ _ _ rfl]
  simp [List.getElem?_eq_getElem hk, bcell]
theorem bcell_bt (n : Nat) (h : n < 256) (x : Int) (hx : x = (n : Int)) : Value.int .u8 x = bcell (bt n) := by
  unfold bcell
  rw [bt_nat n h, hx]
theorem one_1 (c : Nat) (w : World) (h : c < 128) :
    Calls Tryd.prog 38 #[.int .i64 c] w fun e w' => e = .returned (.string ⟨#[bt c]⟩) ∧ Below w.heap.size w w' := by
  have h1 : (c : Int) < 128 := by omega
  have hr := fun w => lit_text w #[.int .u8 (c : Int)] [bt c] 1 rfl (by rw [bcell_bt c (by omega) _ rfl]; rfl)
  clear h
  generalize bt c = b0 at *
  go_enter Tryd.func38, Tryd.ntmps38
  go_wp2
  go_ret
  exact ⟨rfl, (Below.refl _ _).alloc (Nat.le_refl _) _⟩
theorem one_2 (c Q M : Nat) (w : World) (h : 128 ≤ c) (h2 : c < 2048) (hQ : c / 64 = Q) (hM : c % 64 = M) :
    Calls Tryd.prog 38 #[.int .i64 c] w fun e w' => e = .returned (.string ⟨#[bt (192 + Q), bt (128 + M)]⟩) ∧ Below w.heap.size w w' := by
  have h1 : ¬ (c : Int) < 128 := by omega
  have h3 : (c : Int) < 2048 := by omega
  have e1 : (c : Int) / 64 = (Q : Int) := by omega
  have e2 : (c : Int) % 64 = (M : Int) := by omega
  have q1 : (Q : Int) ≤ 31 := by omega
  have m1 : (M : Int) ≤ 63 := by omega
  have hr := fun w => lit_text w #[.int .u8 (192 + (Q : Int)), .int .u8 (128 + (M : Int))] [bt (192 + Q), bt (128 + M)] 2 rfl (by rw [bcell_bt (192 + Q) (by omega) _ (by omega), bcell_bt (128 + M) (by omega) _ (by omega)]; rfl)
  clear h h2 hQ hM
  generalize bt (192 + Q) = b0 at *
  generalize bt (128 + M) = b1 at *
  go_enter Tryd.func38, Tryd.ntmps38
  go_wp2
  go_ret
  exact ⟨rfl, (Below.refl _ _).alloc (Nat.le_refl _) _⟩
theorem one_3 (c Q K N M : Nat) (w : World) (h : 2048 ≤ c) (h2 : c < 65536) (hQ : c / 4096 = Q) (hK : c / 64 = K) (hN : K % 64 = N) (hM : c % 64 = M) :
    Calls Tryd.prog 38 #[.int .i64 c] w fun e w' => e = .returned (.string ⟨#[bt (224 + Q), bt (128 + N), bt (128 + M)]⟩) ∧ Below w.heap.size w w' := by
  have h1 : ¬ (c : Int) < 128 := by omega
  have h3 : ¬ (c : Int) < 2048 := by omega
  have h4 : (c : Int) < 65536 := by omega
  have e1 : (c : Int) / 4096 = (Q : Int) := by omega
  have e2 : (c : Int) / 64 = (K : Int) := by omega
  have e3 : (K : Int) % 64 = (N : Int) := by omega
  have e4 : (c : Int) % 64 = (M : Int) := by omega
  have q1 : (Q : Int) ≤ 15 := by omega
  have k1 : (K : Int) ≤ 1023 := by omega
  have n1 : (N : Int) ≤ 63 := by omega
  have m1 : (M : Int) ≤ 63 := by omega
  have hr := fun w => lit_text w #[.int .u8 (224 + (Q : Int)), .int .u8 (128 + (N : Int)), .int .u8 (128 + (M : Int))] [bt (224 + Q), bt (128 + N), bt (128 + M)] 3 rfl (by rw [bcell_bt (224 + Q) (by omega) _ (by omega), bcell_bt (128 + N) (by omega) _ (by omega), bcell_bt (128 + M) (by omega) _ (by omega)]; rfl)
  clear h h2 hQ hM hK hN
  generalize bt (224 + Q) = b0 at *
  generalize bt (128 + N) = b1 at *
  generalize bt (128 + M) = b2 at *
  go_enter Tryd.func38, Tryd.ntmps38
  go_wp2
  go_ret
  exact ⟨rfl, (Below.refl _ _).alloc (Nat.le_refl _) _⟩
theorem one_4 (c Q K N K' N' M : Nat) (w : World) (h : 65536 ≤ c) (h2 : c ≤ 1114111) (hQ : c / 262144 = Q) (hK : c / 4096 = K) (hN : K % 64 = N) (hK' : c / 64 = K') (hN' : K' % 64 = N') (hM : c % 64 = M) :
    Calls Tryd.prog 38 #[.int .i64 c] w fun e w' => e = .returned (.string ⟨#[bt (240 + Q), bt (128 + N), bt (128 + N'), bt (128 + M)]⟩) ∧ Below w.heap.size w w' := by
  have h1 : ¬ (c : Int) < 128 := by omega
  have h3 : ¬ (c : Int) < 2048 := by omega
  have h4 : ¬ (c : Int) < 65536 := by omega
  have h5 : (c : Int) ≤ 1114111 := by omega
  have e1 : (c : Int) / 262144 = (Q : Int) := by omega
  have e2 : (c : Int) / 4096 = (K : Int) := by omega
  have e3 : (K : Int) % 64 = (N : Int) := by omega
  have e2' : (c : Int) / 64 = (K' : Int) := by omega
  have e3' : (K' : Int) % 64 = (N' : Int) := by omega
  have e4 : (c : Int) % 64 = (M : Int) := by omega
  have q1 : (Q : Int) ≤ 4 := by omega
  have k1 : (K : Int) ≤ 272 := by omega
  have n1 : (N : Int) ≤ 63 := by omega
  have k1' : (K' : Int) ≤ 17408 := by omega
  have n1' : (N' : Int) ≤ 63 := by omega
  have m1 : (M : Int) ≤ 63 := by omega
  have hr := fun w => lit_text w #[.int .u8 (240 + (Q : Int)), .int .u8 (128 + (N : Int)), .int .u8 (128 + (N' : Int)), .int .u8 (128 + (M : Int))] [bt (240 + Q), bt (128 + N), bt (128 + N'), bt (128 + M)] 4 rfl (by rw [bcell_bt (240 + Q) (by omega) _ (by omega), bcell_bt (128 + N) (by omega) _ (by omega), bcell_bt (128 + N') (by omega) _ (by omega), bcell_bt (128 + M) (by omega) _ (by omega)]; rfl)
  clear h h2 hQ hM hK hN hK' hN'
  generalize bt (240 + Q) = b0 at *
  generalize bt (128 + N) = b1 at *
  generalize bt (128 + N') = b2 at *
  generalize bt (128 + M) = b3 at *
  go_enter Tryd.func38, Tryd.ntmps38
  go_wp2
  go_ret
  exact ⟨rfl, (Below.refl _ _).alloc (Nat.le_refl _) _⟩
theorem one_any (c : Nat) (w : World) (h : c ≤ 1114111) :
    Calls Tryd.prog 38 #[.int .i64 c] w fun e w' => e = .returned (.string ⟨(e8 c).toArray⟩) ∧ Below w.heap.size w w' := by
  by_cases c1 : c < 128
  · rw [u8_1 c1]; exact one_1 c w c1
  by_cases c2 : c < 2048
  · rw [u8_2 (by omega) c2]; exact one_2 c _ _ w (by omega) c2 rfl rfl
  by_cases c3 : c < 65536
  · rw [u8_3 (by omega) c3]; exact one_3 c _ _ _ _ w (by omega) c3 rfl rfl rfl rfl
  · rw [u8_4 (by omega)]; exact one_4 c _ _ _ _ _ _ w (by omega) h rfl rfl rfl rfl rfl rfl
def leadN (b : Nat) : Nat × Nat :=
  if b < 128 then (1, b) else if 192 ≤ b ∧ b < 224 then (2, b - 192) else if 224 ≤ b ∧ b < 240 then (3, b - 224) else if 240 ≤ b ∧ b < 248 then (4, b - 240) else (0, 0)
theorem lead_any (b : Nat) (w : World) (h : b < 256) :
    Calls Tryd.prog 36 #[.int .u8 b] w fun e w' => e = .returned (.tuple #[.int .i64 (leadN b).1, .int .i64 (leadN b).2]) ∧ w' = w := by
  have h0 : (b : Int) < 256 := by omega
  unfold leadN
  by_cases a1 : b < 128
  · rw [if_pos a1]
    have d1 : (b : Int) < 128 := by omega
    go_enter Tryd.func36, Tryd.ntmps36
    go_wp2
    go_ret2
    exact ⟨rfl, rfl⟩
  rw [if_neg a1]
  have d1 : decide ((b : Int) < 128) = false := by simp; omega
  by_cases a2 : b < 192
  · rw [if_neg (by omega), if_neg (by omega), if_neg (by omega)]
    have d2 : decide ((192 : Int) ≤ (b : Int)) = false := by simp; omega
    have d3 : decide ((224 : Int) ≤ (b : Int)) = false := by simp; omega
    have d4 : decide ((240 : Int) ≤ (b : Int)) = false := by simp; omega
    go_enter Tryd.func36, Tryd.ntmps36
    go_wp2
    go_ret2
    exact ⟨rfl, rfl⟩
  have d2 : decide ((192 : Int) ≤ (b : Int)) = true := by simp; omega
  by_cases a3 : b < 224
  · rw [if_pos (by omega)]
    have d3 : decide ((b : Int) < 224) = true := by simp; omega
    have e1 : ((b - 192 : Nat) : Int) = (b : Int) - 192 := by omega
    have d5 : (192 : Int) ≤ (b : Int) := by omega
    rw [e1]
    clear a1 a2 a3 h
    go_enter Tryd.func36, Tryd.ntmps36
    go_wp2
    go_ret2
    exact ⟨rfl, rfl⟩
  rw [if_neg (by omega)]
  have d3 : decide ((b : Int) < 224) = false := by simp; omega
  have d4 : decide ((224 : Int) ≤ (b : Int)) = true := by simp; omega
  by_cases a4 : b < 240
  · rw [if_pos (by omega)]
    have d5 : decide ((b : Int) < 240) = true := by simp; omega
    have e1 : ((b - 224 : Nat) : Int) = (b : Int) - 224 := by omega
    have d6 : (224 : Int) ≤ (b : Int) := by omega
    rw [e1]
    clear a1 a2 a3 a4 h
    go_enter Tryd.func36, Tryd.ntmps36
    go_wp2
    go_ret2
    exact ⟨rfl, rfl⟩
  rw [if_neg (by omega)]
  have d5 : decide ((b : Int) < 240) = false := by simp; omega
  have d6 : decide ((240 : Int) ≤ (b : Int)) = true := by simp; omega
  by_cases a5 : b < 248
  · rw [if_pos (by omega)]
    have d7 : decide ((b : Int) < 248) = true := by simp; omega
    have e1 : ((b - 240 : Nat) : Int) = (b : Int) - 240 := by omega
    have d8 : (240 : Int) ≤ (b : Int) := by omega
    rw [e1]
    clear a1 a2 a3 a4 a5 h
    go_enter Tryd.func36, Tryd.ntmps36
    go_wp2
    go_ret2
    exact ⟨rfl, rfl⟩
  · rw [if_neg (by omega)]
    have d7 : decide ((b : Int) < 248) = false := by simp; omega
    go_enter Tryd.func36, Tryd.ntmps36
    go_wp2
    go_ret2
    exact ⟨rfl, rfl⟩
end Go.Proofs.YtpmdekhjodhdmaaDoor
namespace Go.Proofs.YtpmdekhjodhdmaaDoor
def accN (l : List UInt8) (p : Nat) : Nat → Nat
  | 0 => p
  | k + 1 => accN l p k * 64 + ((l.getD (k + 1) 0).toNat - 128)
theorem acc1 (l : List UInt8) (p : Nat) : accN l p 1 = p * 64 + ((l.getD 1 0).toNat - 128) := rfl
theorem acc2 (l : List UInt8) (p : Nat) : accN l p 2 = (p * 64 + ((l.getD 1 0).toNat - 128)) * 64 + ((l.getD 2 0).toNat - 128) := rfl
theorem acc3 (l : List UInt8) (p : Nat) : accN l p 3 = ((p * 64 + ((l.getD 1 0).toNat - 128)) * 64 + ((l.getD 2 0).toNat - 128)) * 64 + ((l.getD 3 0).toNat - 128) := rfl
set_option maxRecDepth 100000 in
theorem u8_lead (c : Nat) (r : List UInt8) (hp : isP (c : Int) = true) :
    (leadN ((e8 c ++ r).getD 0 0).toNat).1 = (e8 c).length ∧ accN (e8 c ++ r) (leadN ((e8 c ++ r).getD 0 0).toNat).2 ((e8 c).length - 1) = c ∧ ∀ j, 1 ≤ j → j < (e8 c).length → 128 ≤ ((e8 c ++ r).getD j 0).toNat ∧ ((e8 c ++ r).getD j 0).toNat ≤ 191 := by
  have hc := isP_t.1 hp
  by_cases c1 : c < 128
  · rw [u8_1 c1]
    have e : leadN c = (1, c) := by unfold leadN; rw [if_pos c1]
    simp only [List.cons_append, List.nil_append, List.getD_cons_zero, bt_nat c (by omega), e, List.length_cons, List.length_nil]
    exact ⟨trivial, rfl, fun j h1 h2 => by omega⟩
  by_cases c2 : c < 2048
  · rw [u8_2 (by omega) c2]
    have e : leadN (192 + c / 64) = (2, c / 64) := by unfold leadN; rw [if_neg (by omega), if_pos (by omega)]; congr 1; omega
    simp only [List.cons_append, List.nil_append, List.getD_cons_zero, bt_nat (192 + c / 64) (by omega), e, List.length_cons, List.length_nil]
    refine ⟨trivial, ?_, fun j h1 h2 => ?_⟩
    · show accN _ _ 1 = c
      rw [acc1]
      simp only [List.getD_cons_zero, List.getD_cons_succ, bt_nat (128 + c % 64) (by omega)]
      omega
    · obtain rfl : j = 1 := by omega
      simp only [List.getD_cons_zero, List.getD_cons_succ, bt_nat (128 + c % 64) (by omega)]
      omega
  by_cases c3 : c < 65536
  · rw [u8_3 (by omega) c3]
    have e : leadN (224 + c / 4096) = (3, c / 4096) := by unfold leadN; rw [if_neg (by omega), if_neg (by omega), if_pos (by omega)]; congr 1; omega
    simp only [List.cons_append, List.nil_append, List.getD_cons_zero, bt_nat (224 + c / 4096) (by omega), e, List.length_cons, List.length_nil]
    refine ⟨trivial, ?_, fun j h1 h2 => ?_⟩
    · show accN _ _ 2 = c
      rw [acc2]
      simp only [List.getD_cons_zero, List.getD_cons_succ, bt_nat (128 + c / 64 % 64) (by omega), bt_nat (128 + c % 64) (by omega)]
      omega
    · rcases (show j = 1 ∨ j = 2 by omega) with rfl | rfl
      · simp only [List.getD_cons_zero, List.getD_cons_succ, bt_nat (128 + c / 64 % 64) (by omega)]
        omega
      · simp only [List.getD_cons_zero, List.getD_cons_succ, bt_nat (128 + c % 64) (by omega)]
        omega
  · rw [u8_4 (by omega)]
    have e : leadN (240 + c / 262144) = (4, c / 262144) := by unfold leadN; rw [if_neg (by omega), if_neg (by omega), if_neg (by omega), if_pos (by omega)]; exact Prod.ext rfl (by simp only; omega)
    simp only [List.cons_append, List.nil_append, List.getD_cons_zero, bt_nat (240 + c / 262144) (by omega), e, List.length_cons, List.length_nil]
    refine ⟨trivial, ?_, fun j h1 h2 => ?_⟩
    · show accN _ _ 3 = c
      rw [acc3]
      simp only [List.getD_cons_zero, List.getD_cons_succ, bt_nat (128 + c / 4096 % 64) (by omega), bt_nat (128 + c / 64 % 64) (by omega), bt_nat (128 + c % 64) (by omega)]
      omega
    · rcases (show j = 1 ∨ j = 2 ∨ j = 3 by omega) with rfl | rfl | rfl
      · simp only [List.getD_cons_zero, List.getD_cons_succ, bt_nat (128 + c / 4096 % 64) (by omega)]
        omega
      · simp only [List.getD_cons_zero, List.getD_cons_succ, bt_nat (128 + c / 64 % 64) (by omega)]
        omega
      · simp only [List.getD_cons_zero, List.getD_cons_succ, bt_nat (128 + c % 64) (by omega)]
        omega
theorem st_lead (l : List UInt8) (h : (st8 l).2 ≠ 0) :
    (leadN (l.getD 0 0).toNat).1 = (st8 l).2 ∧ (st8 l).2 ≤ l.length ∧ accN l (leadN (l.getD 0 0).toNat).2 ((st8 l).2 - 1) = (st8 l).1 ∧ (∀ j, 1 ≤ j → j < (st8 l).2 → 128 ≤ (l.getD j 0).toNat ∧ (l.getD j 0).toNat ≤ 191) ∧ isP ((st8 l).1 : Int) = true ∧ e8 (st8 l).1 = l.take (st8 l).2 := by
  obtain ⟨h1, h2, h3⟩ := code8.good l h
  have hl : l = e8 (st8 l).1 ++ l.drop (st8 l).2 := by rw [h2]; exact (List.take_append_drop _ _).symm
  have hn : (e8 (st8 l).1).length = (st8 l).2 := by rw [h2, List.length_take]; omega
  obtain ⟨a1, a2, a3⟩ := u8_lead (st8 l).1 (l.drop (st8 l).2) h1
  rw [← hl, hn] at a1 a2 a3
  exact ⟨a1, h3, a2, a3, h1, h2⟩
theorem bad_lead (l : List UInt8) (h : (leadN (l.getD 0 0).toNat).1 = 0 ∨ l.length < (leadN (l.getD 0 0).toNat).1) : (st8 l).2 = 0 := by
  rcases Nat.eq_zero_or_pos (st8 l).2 with h0 | h0
  · exact h0
  · obtain ⟨h1, h2, _⟩ := st_lead l (by omega)
    omega
theorem bad_next (l : List UInt8) (j : Nat) (h1 : 1 ≤ j) (h2 : j < (leadN (l.getD 0 0).toNat).1) (h : ¬ (128 ≤ (l.getD j 0).toNat ∧ (l.getD j 0).toNat ≤ 191)) : (st8 l).2 = 0 := by
  rcases Nat.eq_zero_or_pos (st8 l).2 with h0 | h0
  · exact h0
  · obtain ⟨a1, _, _, a4, _⟩ := st_lead l (by omega)
    exact absurd (a4 j h1 (by omega)) h
theorem bad_code (l : List UInt8) (c n : Nat) (hn : (leadN (l.getD 0 0).toNat).1 = n) (hc : accN l (leadN (l.getD 0 0).toNat).2 (n - 1) = c) (h : isP (c : Int) = false ∨ e8 c ≠ l.take n) : (st8 l).2 = 0 := by
  rcases Nat.eq_zero_or_pos (st8 l).2 with h0 | h0
  · exact h0
  · obtain ⟨a1, _, a3, _, a5, a6⟩ := st_lead l (by omega)
    obtain rfl : n = (st8 l).2 := by omega
    obtain rfl : c = (st8 l).1 := by omega
    rcases h with h | h
    · rw [a5] at h; exact absurd h (by simp)
    · exact absurd a6 h
theorem good_code (l : List UInt8) (c n : Nat) (hp : isP (c : Int) = true) (h : e8 c = l.take n) (hn : n ≤ l.length) : st8 l = (c, n) := by
  have hl : l = e8 c ++ l.drop n := by rw [h]; exact (List.take_append_drop _ _).symm
  have := code8.back c (l.drop n) hp
  rw [← hl, h, List.length_take] at this
  rw [this]
  exact Prod.ext rfl (by simp only; omega)
theorem accN_lt (l : List UInt8) (p k : Nat) (hp : p < 128) : accN l p k + 3 ≤ 131 * 64 ^ k := by
  induction k with
  | zero =>
    rw [Nat.pow_zero]
    unfold accN
    omega
  | succ k ih =>
    have := (l.getD (k + 1) 0).toNat_lt
    have e : accN l p (k + 1) = accN l p k * 64 + ((l.getD (k + 1) 0).toNat - 128) := rfl
    rw [e, Nat.pow_succ]
    generalize accN l p k = A at *
    generalize 64 ^ k = B at *
    omega
theorem leadN_bd (b : Nat) (h : b < 256) : (leadN b).1 ≤ 4 ∧ (leadN b).2 < 128 := by
  unfold leadN
  repeat' split
  all_goals (simp only; omega)
end Go.Proofs.YtpmdekhjodhdmaaDoor
