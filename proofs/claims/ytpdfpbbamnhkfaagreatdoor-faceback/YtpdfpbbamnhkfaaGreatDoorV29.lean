/-
  Joined: G10LJ, G10Bp.
-/
import Derived.Deep.AppendSrc
import Derived.SizedLaws
import Derived.SliceStrings
import Derived.Test.YtpdfpbbamnhkfaaGreatDoorV27
import Derived.Test.YtpdfpbbamnhkfaaGreatDoorV28
namespace Go.Proofs.YtpdfpbbamnhkfaaGreatDoor.G10
open Go.ChangeShapes Go.WideShapes Go.RowKit Go.Deep
set_option linter.unusedVariables false
set_option linter.unusedSimpArgs false
section
variable {H : Type} {enc : TypeId × Value → H} {W : World} {base : Nat} {sp : Nat → Bool} {held : Bool}
variable {r : Reach} {b0 : Nat} {v : Value} {d : DataW H} {pl : List MemPlace}
end
def totS (l : List ByteArray) : Nat := (l.map (·.size)).sum
theorem jg_le : ∀ ss : List ByteArray, (jg ss).length ≤ totS ss + 3 * ss.length
  | [] => by simp [jg, totS]
  | s :: ss => by
    have h := jg_le ss
    have e : (jg (s :: ss)).length = (pdT s.data.toList).length + (jg ss).length := by unfold jg; simp
    rw [e, pdT_len, ← Lib.size_eq, List.length_cons]
    have : lck s.size ≤ 3 := by unfold lck; omega
    have e2 : totS (s :: ss) = s.size + totS ss := by unfold totS; simp
    omega
end Go.Proofs.YtpdfpbbamnhkfaaGreatDoor.G10
namespace Go.Proofs.YtpdfpbbamnhkfaaGreatDoor.G10
open Go.RowKit Go.Deep
set_option linter.unusedVariables false
set_option linter.unusedSimpArgs false
theorem bt_pad (l : List UInt8) (z k : Nat) : bt (l ++ List.replicate z 0) k = bt l k := by
  unfold bt
  rw [List.getD_eq_getElem?_getD, List.getD_eq_getElem?_getD]
  rcases Nat.lt_or_ge k l.length with h | h
  · rw [List.getElem?_append_left h]
  · rw [List.getElem?_append_right h, List.getElem?_eq_none h, List.getElem?_replicate]
    split <;> rfl
theorem n2_pad (l : List UInt8) (z k : Nat) : n2 (l ++ List.replicate z 0) k = n2 l k := by unfold n2; rw [bt_pad, bt_pad]
theorem flg_pad (l : List UInt8) (z N N' : Nat) (hN : N ≤ N') : ∀ (m left a y : Nat) (r : Nat × Nat), flg l N m left a y = some r → flg (l ++ List.replicate z 0) N' m left a y = some r := by
  intro m
  induction m with
  | zero =>
    intro left a y r h
    simpa [flg] using h
  | succ m ih =>
    intro left a y r h
    by_cases h0 : left = 0
    · subst h0; rw [flg_zero] at h ⊢; exact h
    by_cases ha : a < N
    · cases h8 : hb (bt l a) 8
      · rw [flg_one l N m left a y h0 ha h8] at h
        rw [flg_one _ N' m left a y h0 (by omega) (by rw [bt_pad]; exact h8), bt_pad]
        exact ih _ _ _ _ h
      · by_cases ha1 : a + 1 < N
        · by_cases hk : bt l (a + 1) + 1 ≤ left
          · rw [flg_many l N m left a y h0 h8 ha1 hk] at h
            rw [flg_many _ N' m left a y h0 (by rw [bt_pad]; exact h8) (by omega) (by rw [bt_pad]; exact hk), bt_pad, bt_pad]
            exact ih _ _ _ _ h
          · rw [flg_over l N _ left a y h0 h8 hk] at h; cases h
        · rw [flg_short l N _ left a y h0 h8 ha1] at h; cases h
    · rw [flg_end l N _ left a y h0 ha] at h; cases h
theorem tail_pad (l : List UInt8) (z a : Nat) (h : tailB l a = true) : tailB (l ++ List.replicate z 0) a = true := by
  unfold tailB at *
  rw [Bool.and_eq_true, decide_eq_true_eq] at *
  refine ⟨by rw [List.length_append]; omega, ?_⟩
  rw [List.drop_append_of_le_length h.1, List.all_append, h.2, Bool.true_and, List.all_eq_true]
  intro c hc
  rw [List.eq_of_mem_replicate hc]
  rfl
theorem rise_pad (l : List UInt8) (z c : Nat) : riseB (l ++ List.replicate z 0) c = riseB l c := by
  unfold riseB
  have e : (fun i => decide (n2 (l ++ List.replicate z 0) (10 + 2 * i) < n2 (l ++ List.replicate z 0) (12 + 2 * i))) = fun i => decide (n2 l (10 + 2 * i) < n2 l (12 + 2 * i)) := by
    funext i
    rw [n2_pad, n2_pad]
  rw [e]
theorem sim_pad (l : List UInt8) (z c p : Nat) (h : simV l c = some p) : simV (l ++ List.replicate z 0) c = some p := by
  unfold simV at *
  split at h
  · rename_i hc
    rw [if_pos ⟨by rw [List.length_append]; omega, by rw [rise_pad]; exact hc.2⟩]
    rw [n2_pad, n2_pad]
    split at h
    · cases h
    · rename_i a y hf
      rw [flg_pad l z l.length _ (by rw [List.length_append]; omega) _ _ _ _ _ hf]
      simp only
      split at h
      · rename_i ht
        rw [if_pos (tail_pad l z _ ht)]
        exact h
      · cases h
  · cases h
theorem cmp_pad (l : List UInt8) (z N N' : Nat) (hN : N ≤ N') : ∀ (m a : Nat) (acc : List Nat) (r : List Nat × Nat), cmpA l N m a acc = some r → cmpA (l ++ List.replicate z 0) N' m a acc = some r := by
  intro m
  induction m with
  | zero => intro a acc r h; simp [cmpA] at h
  | succ m ih =>
    intro a acc r h
    rw [cmpA] at h ⊢
    split at h
    · rename_i h1
      rw [if_pos (by omega), n2_pad]
      split at h
      · cases h
      · rename_i k hk
        split at h
        · rename_i h2
          rw [if_pos (by omega)]
          split at h
          · rename_i h3
            rw [if_pos h3]
            exact ih _ _ _ h
          · rename_i h3
            rw [if_neg h3]
            split at h
            · rename_i h4
              rw [if_pos h4, n2_pad]
              split at h
              · rename_i h5
                rw [if_pos (by omega)]
                exact h
              · cases h
            · rename_i h4
              rw [if_neg h4]
              exact h
        · cases h
    · cases h
theorem com_pad (l : List UInt8) (z : Nat) (ps : List Nat) (h : comV l = some ps) : comV (l ++ List.replicate z 0) = some ps := by
  unfold comV at *
  split at h
  · cases h
  · rename_i qs e hc
    rw [cmp_pad l z l.length _ (by rw [List.length_append]; omega) _ _ _ _ hc]
    simp only
    split at h
    · rename_i ht
      rw [if_pos (tail_pad l z _ ht)]
      exact h
    · cases h
theorem sh_pad (l : List UInt8) (z : Nat) (r : Nat × List Nat) (h0 : l.length ≠ 0) (h : shV l = some r) : shV (l ++ List.replicate z 0) = some r := by
  unfold shV at *
  rw [if_neg h0] at h
  rw [if_neg (by rw [List.length_append]; omega)]
  split at h
  · cases h
  · rename_i h10
    rw [if_neg (by rw [List.length_append]; omega), n2_pad]
    split at h
    · rename_i h6
      rw [if_pos h6]
      obtain ⟨ps, h1, h2⟩ := Option.map_eq_some_iff.1 h
      rw [com_pad l z ps h1, ← h2]
      rfl
    · rename_i h6
      rw [if_neg h6]
      split at h
      · rename_i h7
        rw [if_pos h7]
        obtain ⟨p, h1, h2⟩ := Option.map_eq_some_iff.1 h
        rw [sim_pad l z _ p h1, ← h2]
        rfl
      · cases h
theorem sh_pd (l : List UInt8) (r : Nat × List Nat) (h : shV l = some r) : shV (pdT l) = some r := by
  by_cases h0 : l.length = 0
  · have : l = [] := List.eq_nil_of_length_eq_zero h0
    subst this
    exact h
  · exact sh_pad l _ r h0 h
theorem pr_pd (l : List UInt8) (ps : List Nat) : prV (pdT l) ps = prV l ps := by
  unfold prV pdT
  have e : n2 (l ++ List.replicate (lck l.length) 0) = n2 l := by
    funext k
    exact n2_pad l _ k
  rw [e]
theorem jl_append : ∀ (x y : List ByteArray) (a : Nat), jl a (x ++ y) = jl a x ++ jl (a + (jg x).length) y
  | [], y, a => by simp [jl, jg]
  | s :: x, y, a => by
    rw [List.cons_append, jl, jl, jl_append x y, List.append_assoc]
    have : jg (s :: x) = pdT s.data.toList ++ jg x := by unfold jg; simp
    rw [this, List.length_append, Nat.add_assoc]
theorem byI_nat (x : Nat) (d : Nat) (hd : 0 < d) : (byI (x : Int) (d : Int)).toNat = x / d % 256 := by
  unfold byI
  rw [UInt8.toNat_ofNat']
  have : ((x : Int) / (d : Int) % 256).toNat = x / d % 256 := by
    have e : (x : Int) / (d : Int) = ((x / d : Nat) : Int) := by simp
    rw [e]
    omega
  rw [this]
  omega
theorem n4_p4 (A C : List UInt8) (x k : Nat) (hk : A.length = k) (hx : x < 4294967296) : n4 (A ++ (p4 (x : Int) ++ C)) k = x := by
  have g : ∀ j, j < 4 → bt (A ++ (p4 (x : Int) ++ C)) (k + j) = ((p4 (x : Int)).getD j 0).toNat := fun j hj => by
    unfold bt
    rw [List.getD_eq_getElem?_getD, List.getD_eq_getElem?_getD, List.getElem?_append_right (by omega), show k + j - A.length = j by omega, List.getElem?_append_left (by simp [p4]; omega)]
  have g0 := g 0 (by omega)
  have g1 := g 1 (by omega)
  have g2 := g 2 (by omega)
  have g3 := g 3 (by omega)
  have e0 : ((p4 (x : Int)).getD 0 0).toNat = x / 16777216 % 256 := byI_nat x 16777216 (by omega)
  have e1 : ((p4 (x : Int)).getD 1 0).toNat = x / 65536 % 256 := byI_nat x 65536 (by omega)
  have e2 : ((p4 (x : Int)).getD 2 0).toNat = x / 256 % 256 := byI_nat x 256 (by omega)
  have e3 : ((p4 (x : Int)).getD 3 0).toNat = x / 1 % 256 := byI_nat x 1 (by omega)
  unfold n4 n2
  rw [show k + 2 + 1 = k + 3 from rfl, g1, g2, g3, e1, e2, e3]
  rw [Nat.add_zero, e0] at g0
  rw [g0]
  omega
theorem place_at (ss : List ByteArray) (i : Nat) (hi : i ≤ ss.length) (hs : (jg ss).length < 4294967296) : n4 (jl 0 ss ++ p4 (((jg ss).length : Nat) : Int)) (4 * i) = (jg (ss.take i)).length := by
  have hl : (jl 0 (ss.take i)).length = 4 * i := by rw [jl_len, List.length_take, Nat.min_eq_left hi]
  rcases Nat.lt_or_ge i ss.length with h | h
  · have e : jl 0 ss ++ p4 (((jg ss).length : Nat) : Int) = jl 0 (ss.take i) ++ (p4 (((jg (ss.take i)).length : Nat) : Int) ++ (jl (0 + (jg (ss.take i)).length + (pdT ss[i].data.toList).length) (ss.drop (i + 1)) ++ p4 (((jg ss).length : Nat) : Int))) := by
      conv => lhs; lhs; rw [← List.take_append_drop i ss, jl_append, List.drop_eq_getElem_cons h, jl]
      simp
    rw [e]
    exact n4_p4 _ _ _ _ hl (by have := jg_take ss i; omega)
  · have e : ss.take i = ss := List.take_of_length_le h
    rw [e] at hl ⊢
    have := n4_p4 (jl 0 ss) [] (jg ss).length (4 * i) hl hs
    rwa [List.append_nil] at this
theorem spl_join (ss : List ByteArray) (h1 : 1 ≤ ss.length) (h2 : ss.length ≤ 4096) (hs : (jg ss).length ≤ 1048576) :
    splB (jl 0 ss ++ p4 (((jg ss).length : Nat) : Int)) (jg ss).length (ss.length : Int) true = true := by
  have hp : ∀ i, i ≤ ss.length → plc (jl 0 ss ++ p4 (((jg ss).length : Nat) : Int)) true i = (jg (ss.take i)).length := fun i hi => by
    unfold plc
    rw [if_pos rfl, place_at ss i hi (by omega)]
  unfold splB
  rw [Bool.and_eq_true, Bool.and_eq_true, decide_eq_true_eq, decide_eq_true_eq, Int.toNat_natCast]
  refine ⟨⟨by omega, by omega, ?_⟩, ?_, ?_⟩
  · rw [List.length_append, jl_len]
    show 4 * (ss.length + 1) ≤ 4 * ss.length + 4
    omega
  · rw [srt_iff]
    intro i hi
    unfold plI
    rw [hp i (by omega), hp (i + 1) (by omega)]
    have := take_s ss i (by omega)
    rw [this, jg_snoc, List.length_append]
    omega
  · rw [hp _ (Nat.le_refl _), List.take_of_length_le (Nat.le_refl _)]
    exact Nat.le_refl _
theorem spl_at (ss : List ByteArray) (g : ByteArray) (hg : g.data.toList = jg ss) (hs : (jg ss).length ≤ 1048576) (i : Nat) (hi : i < ss.length) :
    (splG (jl 0 ss ++ p4 (((jg ss).length : Nat) : Int)) g true i).data.toList = pdT (ss.getD i ⟨#[]⟩).data.toList := by
  have hp : ∀ i, i ≤ ss.length → plc (jl 0 ss ++ p4 (((jg ss).length : Nat) : Int)) true i = (jg (ss.take i)).length := fun i hi => by
    unfold plc
    rw [if_pos rfl, place_at ss i hi (by omega)]
  unfold splG
  rw [hp i (by omega), hp (i + 1) (by omega), ByteArray.data_extract, Array.toList_extract, List.extract_eq_take_drop, hg]
  have e1 := take_s ss i hi
  have e2 : jg ss = jg (ss.take i) ++ (pdT (ss.getD i ⟨#[]⟩).data.toList ++ jg (ss.drop (i + 1))) := by
    conv => lhs; rw [← List.take_append_drop (i + 1) ss, e1]
    unfold jg
    simp
  rw [e1, jg_snoc, List.length_append]
  rw [show (jg (ss.take i)).length + (pdT (ss.getD i ⟨#[]⟩).data.toList).length - (jg (ss.take i)).length = (pdT (ss.getD i ⟨#[]⟩).data.toList).length by omega]
  conv => lhs; rw [e2]
  rw [List.drop_left, List.take_left]
end Go.Proofs.YtpdfpbbamnhkfaaGreatDoor.G10
