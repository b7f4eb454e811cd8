/-
  A table of groups, read: what its bytes say. Pure.
-/
import Derived.Test.YtkmmphpaaahajaaC11Wt
namespace Go.Proofs.Ytkmmphpaaahajaa
set_option linter.unusedVariables false

theorem hiB_nat (x : Int) : (hiB x).toNat = (x / 256 % 256).toNat := by
  unfold hiB
  have h0 : 0 ≤ x / 256 % 256 := Int.emod_nonneg _ (by omega)
  have h1 : x / 256 % 256 < 256 := Int.emod_lt_of_pos _ (by omega)
  rw [UInt8.toNat_ofNat']; omega
theorem loB_nat (x : Int) : (loB x).toNat = (x % 256).toNat := by
  unfold loB
  have h0 : 0 ≤ x % 256 := Int.emod_nonneg _ (by omega)
  have h1 : x % 256 < 256 := Int.emod_lt_of_pos _ (by omega)
  rw [UInt8.toNat_ofNat']; omega
theorem bt_app (pre : List UInt8) (b : UInt8) (post : List UInt8) : bt (pre ++ b :: post) pre.length = b.toNat := by
  unfold bt; rw [List.getD_eq_getElem?_getD, List.getElem?_append_right (Nat.le_refl _)]; simp
theorem bt_app1 (pre : List UInt8) (a b : UInt8) (post : List UInt8) : bt (pre ++ a :: b :: post) (pre.length + 1) = b.toNat := by
  have := bt_app (pre ++ [a]) b post
  simpa using this
theorem n2_app (pre : List UInt8) (x : Int) (post : List UInt8) : n2 (pre ++ (t2 x ++ post)) pre.length = (x % 65536).toNat := by
  unfold n2 t2
  rw [show ([hiB x, loB x] ++ post) = hiB x :: loB x :: post from rfl, bt_app, bt_app1, hiB_nat, loB_nat]
  omega
theorem n4_app (pre : List UInt8) (x : Int) (post : List UInt8) : n4 (pre ++ (t4 x ++ post)) pre.length = (x % 4294967296).toNat := by
  unfold n4 t4
  rw [List.append_assoc, n2_app]
  have := n2_app (pre ++ t2 (x / 65536)) x post
  rw [List.append_assoc, List.length_append, show (t2 (x / 65536)).length = 2 from rfl] at this
  rw [this]
  omega
theorem n4_at {s pre post : List UInt8} {x : Int} {k : Nat} (hs : s = pre ++ (t4 x ++ post)) (hk : pre.length = k) (h0 : 0 ≤ x) (h1 : x < 4294967296) : n4 s k = x.toNat := by
  rw [hs, ← hk, n4_app]; omega
theorem n2_at {s pre post : List UInt8} {x : Int} {k : Nat} (hs : s = pre ++ (t2 x ++ post)) (hk : pre.length = k) (h0 : 0 ≤ x) (h1 : x < 65536) : n2 s k = x.toNat := by
  rw [hs, ← hk, n2_app]; omega
theorem g3_three (x : Ch) : g3 x = t4 x.f ++ (t4 x.l ++ t4 x.g) := by unfold g3 fo; simp
/- format 12 of groups -/
def s12 (gs : List Ch) : List UInt8 := [0, 12, 0, 0] ++ fo [16 + 12 * (gs.length : Int), 0, (gs.length : Int)] ++ gs.flatMap g3
def GI (x : Ch) : Prop := 0 ≤ x.f ∧ x.f ≤ x.l ∧ x.l ≤ 1114111 ∧ 0 ≤ x.g ∧ x.g + x.l - x.f < 4096
theorem s12_len (gs : List Ch) : (s12 gs).length = 16 + 12 * gs.length := by
  unfold s12; rw [List.length_append, List.length_append, fo_len, g3_len]; rfl
theorem s12_m (gs : List Ch) (h : gs.length ≤ 4096) : n4 (s12 gs) 12 = gs.length ∧ n4 (s12 gs) 4 = 16 + 12 * gs.length := by
  have e : fo [16 + 12 * (gs.length : Int), 0, (gs.length : Int)] = t4 (16 + 12 * (gs.length : Int)) ++ (t4 0 ++ t4 (gs.length : Int)) := by unfold fo; simp
  refine ⟨?_, ?_⟩
  · have := n4_at (s := s12 gs) (pre := [0, 12, 0, 0] ++ (t4 (16 + 12 * (gs.length : Int)) ++ t4 0)) (post := gs.flatMap g3) (x := (gs.length : Int)) (k := 12) (by unfold s12; rw [e]; simp [List.append_assoc]) rfl (by omega) (by omega)
    rw [this]; simp
  · have := n4_at (s := s12 gs) (pre := [0, 12, 0, 0]) (post := t4 0 ++ (t4 (gs.length : Int) ++ gs.flatMap g3)) (x := 16 + 12 * (gs.length : Int)) (k := 4) (by unfold s12; rw [e]; simp [List.append_assoc]) rfl (by omega) (by omega)
    rw [this]; omega
theorem split_at (gs : List Ch) (i : Nat) (h : i < gs.length) : gs.flatMap g3 = (gs.take i).flatMap g3 ++ (g3 (gs.getD i c0) ++ (gs.drop (i + 1)).flatMap g3) := by
  have e : gs = gs.take i ++ (gs.getD i c0 :: gs.drop (i + 1)) := by
    rw [← dropC gs i h, List.take_append_drop]
  have := congrArg (fun l => l.flatMap g3) e
  simp only [List.flatMap_append, List.flatMap_cons] at this
  exact this
theorem s12_at (gs : List Ch) (i : Nat) (h : i < gs.length) (hg : GI (gs.getD i c0)) : ga (s12 gs) i = (gs.getD i c0).f.toNat ∧ gb (s12 gs) i = (gs.getD i c0).l.toNat ∧ gg (s12 gs) i = (gs.getD i c0).g.toNat := by
  obtain ⟨h0, h1, h2, h3, h4⟩ := hg
  obtain ⟨pre, hpre⟩ : ∃ pre, [0, 12, 0, 0] ++ fo [16 + 12 * (gs.length : Int), 0, (gs.length : Int)] ++ (gs.take i).flatMap g3 = pre := ⟨_, rfl⟩
  have hl : pre.length = 16 + 12 * i := by
    rw [← hpre, List.length_append, List.length_append, fo_len, g3_len, List.length_take]; simp; omega
  have hs : s12 gs = pre ++ (g3 (gs.getD i c0) ++ (gs.drop (i + 1)).flatMap g3) := by
    unfold s12; rw [split_at gs i h, ← hpre]; simp [List.append_assoc]
  generalize gs.getD i c0 = x at *
  rw [g3_three] at hs
  refine ⟨?_, ?_, ?_⟩
  · exact n4_at (pre := pre) (x := x.f) (by rw [hs]; simp [List.append_assoc]; rfl) hl h0 (by omega)
  · exact n4_at (pre := pre ++ t4 x.f) (x := x.l) (by rw [hs]; simp [List.append_assoc]; rfl) (by rw [List.length_append, hl]; simp [t4, t2]; omega) (by omega) (by omega)
  · exact n4_at (pre := pre ++ (t4 x.f ++ t4 x.l)) (x := x.g) (by rw [hs]; simp [List.append_assoc]; rfl) (by rw [List.length_append, hl]; simp [t4, t2]; omega) h3 (by omega)
/- the groups, one by one -/
def accL : List Ch → List Ch → Option (List Ch)
  | [], cs => some cs
  | x :: r, cs => (grpF x.f.toNat x.g.toNat cs ((x.l.toNat - x.f.toNat) + 1)).bind (accL r)
theorem accL_snoc (gs : List Ch) (x : Ch) : ∀ cs, accL (gs ++ [x]) cs = (accL gs cs).bind fun y => grpF x.f.toNat x.g.toNat y ((x.l.toNat - x.f.toNat) + 1) := by
  induction gs with
  | nil => intro cs; simp only [List.nil_append, accL, Option.bind_some]; cases grpF x.f.toNat x.g.toNat cs (x.l.toNat - x.f.toNat + 1) <;> rfl
  | cons y r ih =>
    intro cs
    simp only [List.cons_append, accL]
    cases grpF y.f.toNat y.g.toNat cs (y.l.toNat - y.f.toNat + 1) with
    | none => rfl
    | some z => simp only [Option.bind_some]; exact ih z
/- groups that rise -/
def Rise (gs : List Ch) : Prop := ∀ i, i + 1 < gs.length → (gs.getD i c0).l < (gs.getD (i + 1) c0).f
theorem s12_red (gs : List Ch) (hm : gs.length ≤ 4096) (hg : ∀ i, i < gs.length → GI (gs.getD i c0)) (hr : Rise gs) : twV (s12 gs) 4096 = accL gs [] := by
  obtain ⟨m1, m2⟩ := s12_m gs hm
  have hb : twB (s12 gs) = true := by
    rw [twB_t, m1, m2, s12_len]
    refine ⟨by omega, ?_, hm, rfl, by omega⟩
    unfold s12; simp
  have ha : ∀ i, i < n4 (s12 gs) 12 → okG (s12 gs) 4096 i = true := by
    intro i hi
    rw [m1] at hi
    obtain ⟨e1, e2, e3⟩ := s12_at gs i hi (hg i hi)
    obtain ⟨h0, h1, h2, h3, h4⟩ := hg i hi
    have hle : lea (s12 gs) i ≤ (gs.getD i c0).f.toNat := by
      cases i with
      | zero => exact Nat.zero_le _
      | succ j =>
        show gb (s12 gs) j + 1 ≤ _
        obtain ⟨_, e, _⟩ := s12_at gs j (by omega) (hg j (by omega))
        have := hr j hi
        have hj := hg j (by omega)
        unfold GI at hj
        rw [e]; omega
    unfold okG
    rw [e1, e2, e3]
    exact decide_eq_true ⟨hle, by omega, by omega, by omega⟩
  rw [twV_ok hb ha, m1]
  have : ∀ k, k ≤ gs.length → accG (s12 gs) k = accL (gs.take k) [] := by
    intro k
    induction k with
    | zero => intro _; rfl
    | succ k ih =>
      intro hk
      obtain ⟨e1, e2, e3⟩ := s12_at gs k (by omega) (hg k (by omega))
      rw [accG, ih (by omega), take_ch gs k (by omega), accL_snoc, e1, e2, e3]
  have h := this gs.length (Nat.le_refl _)
  rwa [List.take_length] at h
/- the table around it -/
theorem tab_red (H : List UInt8) (gs : List Ch) (hH : H.length = 12) (h0 : H.take 2 = [0, 0]) (h1 : n2 H 2 = 1) (h2 : wiR (n2 H 4) (n2 H 6) = true) (h3 : n4 H 8 = 12)
    (hm : gs.length ≤ 4096) (hg : ∀ i, i < gs.length → GI (gs.getD i c0)) (hr : Rise gs) : redV (H ++ s12 gs) 4096 = accL gs [] := by
  have hbt : ∀ k, k < 12 → bt (H ++ s12 gs) k = bt H k := fun k hk => by
    unfold bt; rw [List.getD_eq_getElem?_getD, List.getElem?_append_left (by omega), ← List.getD_eq_getElem?_getD]
  have hn2 : ∀ k, k + 1 < 12 → n2 (H ++ s12 gs) k = n2 H k := fun k hk => by unfold n2; rw [hbt k (by omega), hbt (k + 1) (by omega)]
  have hn4 : n4 (H ++ s12 gs) 8 = 12 := by
    rw [← h3]; unfold n4; rw [hn2 8 (by omega), hn2 10 (by omega)]
  have hl : (H ++ s12 gs).length = 28 + 12 * gs.length := by rw [List.length_append, hH, s12_len]; omega
  have hrow : rowB (H ++ s12 gs) = true := by
    rw [rowB_t, hl, hn2 2 (by omega), h1]
    refine ⟨by omega, ?_, by omega⟩
    rw [List.take_append_of_le_length (by omega)]; exact h0
  have hwi : wiI (H ++ s12 gs) = some 0 := by
    unfold wiI
    rw [hn2 2 (by omega), h1]
    refine fstI_some (by omega) ?_ (fun j hj => by omega)
    show wiR (rp (H ++ s12 gs) 0) (re (H ++ s12 gs) 0) = true
    unfold rp re
    rw [hn2 4 (by omega), hn2 6 (by omega)]
    exact h2
  unfold redV redW
  rw [hrow, hwi]
  show twV ((H ++ s12 gs).drop (rpl (H ++ s12 gs) 0)) 4096 = _
  have : rpl (H ++ s12 gs) 0 = 12 := hn4
  rw [this, ← hH, List.drop_left]
  exact s12_red gs hm hg hr
end Go.Proofs.Ytkmmphpaaahajaa
