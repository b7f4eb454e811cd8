/-
  Joined: O5Wak, O5Prt, O5Ao, O5Ad, O5Aob, O5Lrg, O5LGet, O5Opn.
-/
import Derived.Test.YtlnkddmpcicejaaDoorBC
import Derived.Test.YtlnkddmpcicejaaDoorBH
import Derived.Test.YtlnkddmpcicejaaDoorBE
import Derived.Test.YtlnkddmpcicejaaDoorBA
import Derived.Test.YtlnkddmpcicejaaDoorBB
import Derived.ProofKit
import Derived.OpenShut
import Derived.ChangeSlices
import Derived.ChangeArms
import Derived.SliceStrings
import Derived.SizedLaws
import Derived.Deep.Slices
/-
  The law's own wakes: it answers true.
-/
namespace Go.Proofs.YtlnkddmpcicejaaDoor
open Go.RowKit Go.Deep

theorem BRow.shape {w : World} {B : Nat} {v : Value} {ys : List UInt8} (h : BRow w B v ys) : ∃ a cap, v = .slice a ys.length cap := by
  obtain ⟨_, ⟨h0, h1⟩ | ⟨g, cap, cur, hv, _⟩⟩ := h
  · exact ⟨none, 0, by rw [h0, h1]⟩
  · exact ⟨_, cap, hv⟩
set_option maxRecDepth 8000 in
set_option maxHeartbeats 4000000 in
theorem aobj_name (p : Pay) (n : Nat) (ka : Option Addr) (kc : Nat) (ia : Option Addr) (ic : Nat) (w : World) (hk : p.kind = 4) (ht : p.text.size ≤ 127) :
    Calls Tryd.prog 33 #[.slice none 0 0, ov p ka kc ia n ic] w fun e w' => ∃ v', e = .returned v' ∧ BRow w' w.heap.size v' (nameT p.text.data.toList) ∧ Below w.heap.size w w' := by
  have CN := hide (appendName_any (.slice none 0 0) [] w.heap.size p.text (w.alloc (.cells (obox p ka kc ia n ic) 39)) (BRow.nil _ _) (by simp) (by simp; omega))
  have HB := hide ((Below.refl w.heap.size w).alloc (Nat.le_refl _) (.cells (obox p ka kc ia n ic) 39))
  have e1 : (p.kind == 1) = false := by rw [hk]; rfl
  have e2 : (p.kind == 2) = false := by rw [hk]; rfl
  have e3 : (p.kind == 3) = false := by rw [hk]; rfl
  have e4 : (p.kind == 4) = true := by rw [hk]; rfl
  clear hk ht
  go_enter Tryd.func33, Tryd.ntmps33
  go_wp2_with (go_at_call 41; refine CN.out.mono ?_; rintro e wy ⟨v', rfl, hb, hw⟩)
  go_ret
  exact ⟨_, rfl, hb, HB.out.trans hw⟩
set_option maxRecDepth 8000 in
set_option maxHeartbeats 4000000 in
theorem print_name (p : Pay) (T : BT Pay) (ka : Option Addr) (kc : Nat) (ia : Option Addr) (ic : Nat) (w : World) (hin : OIn w p T ka kc ia ic) (hk : p.kind = 4) (ht : p.text.size ≤ 127) (hg : decide (0 < goodV p T 0 0) = true) (hn : (nameT p.text.data.toList).length ≤ 1000) :
    Calls Tryd.prog 27 #[ov p ka kc ia (flen T) ic] w fun e w' => e = .returned (.tuple #[.string ⟨(nameT p.text.data.toList).toArray⟩, .int .i64 0]) ∧ Below w.heap.size w w' := by
  have HB := hide ((Below.refl w.heap.size w).alloc (Nat.le_refl _) (.cells (obox p ka kc ia (flen T) ic) 39))
  have CG := hide (oGood_any p T ka kc ia ic _ (hin.below HB.out))
  rw [hg] at CG
  have CA := hide (fun w => aobj_name p (flen T) ka kc ia ic w hk ht)
  have HS := hide (six_box w p ka kc ia (flen T) ic 39)
  have hz : w.heap.size < (w.alloc (.cells (obox p ka kc ia (flen T) ic) 39)).heap.size := by simp
  have HN := hide hn
  clear hin hk ht hg hn
  go_enter Tryd.func27, Tryd.ntmps27
  go_wp2_with fail
  refine CG.out.mono ?_
  rintro e w1 ⟨rfl, h1⟩
  have HB1 := hide (below_t5 HB.out h1)
  obtain ⟨s0, s1, s2, s3, s4, s5⟩ := HS.out.below hz h1
  simp only [Nat.zero_add] at s1 s2 s3 s4 s5
  clear h1
  go_wp2_with fail
  refine (CA.out _).mono ?_
  rintro e w2 ⟨v', rfl, hb, hw⟩
  obtain ⟨a, cap, rfl⟩ := hb.shape
  have hcv := BRow.text hb
  have HW := hide (below_t5 HB1.out hw)
  have hn2 : ((nameT p.text.data.toList).length : Int) ≤ 1000 := by have := HN.out; omega
  generalize (nameT p.text.data.toList).length = N at hcv hn2 ⊢
  clear hb hw s0 s1 s2 s3 s4 s5
  go_wp2_with fail
  go_ret2
  exact ⟨rfl, HW.out⟩
abbrev wakS : ByteArray := ⟨#[32, 91, 32, 49, 50, 32, 48, 32, 82, 93]⟩
abbrev wakP : Pay := ⟨4, false, 0, ⟨#[65, 32, 98, 35]⟩, []⟩
theorem wak_in (w : World) : OIn w wakP .nil none 0 none 0 :=
  ⟨⟨⟨by decide, by decide⟩, ⟨by decide, by decide⟩, by decide, by simp⟩, ⟨Or.inl rfl, ⟨by simp, by simp⟩, by omega⟩, ⟨by simp [flen], by simp [flen]⟩, by omega, Or.inl rfl⟩
theorem wak_print (w : World) : Calls Tryd.prog 27 #[.agg #[.int .i64 4, .bool false, .int .i64 0, .string ⟨#[65, 32, 98, 35]⟩, .slice none 0 0, .slice none 0 0]] w fun e w' => e = .returned (.tuple #[.string ⟨#[47, 65, 35, 50, 48, 98, 35, 50, 51]⟩, .int .i64 0]) ∧ Below w.heap.size w w' := by
  have h := print_name wakP .nil none 0 none 0 w (wak_in w) rfl (by decide) (by decide) (by decide)
  have hN : nameT wakP.text.data.toList = [47, 65, 35, 50, 48, 98, 35, 50, 51] := by decide
  rw [hN] at h
  exact h
end Go.Proofs.YtlnkddmpcicejaaDoor
/-
  The text of an object, in plain words; the landed way, which stops when a text is too long.
-/
namespace Go.Proofs.YtlnkddmpcicejaaDoor
open Go.RowKit Go.Deep Go.Lib

def atomT (p : Pay) : List UInt8 :=
  if p.kind = 1 then boolT p.flag else if p.kind = 2 then intT p.num else if p.kind = 3 then D2.textL p.num else if p.kind = 4 then nameT p.text.data.toList
  else if p.kind = 5 then strT p.text.data.toList else if p.kind = 8 then intT p.num ++ [32, 48, 32, 82] else [110, 117, 108, 108]
def objV (p : Pay) (k : Bool → List ByteArray → List UInt8) : List UInt8 :=
  if p.kind = 6 then 91 :: (k false [] ++ [93]) else if p.kind = 7 then 60 :: 60 :: (k true p.keys ++ [62, 62]) else atomT p
def forT : BT Pay → Bool → List ByteArray → Bool → List UInt8
  | .nil, _, _, _ => []
  | .node _ _ p T N, d, ks, first => (if first then [] else [32]) ++ ((if d then nameT (ks.headD ByteArray.empty).data.toList ++ [32] else []) ++ (objV p (fun d ks => forT T d ks true) ++ forT N d ks.tail false))
def objT (p : Pay) (T : BT Pay) : List UInt8 := objV p fun d ks => forT T d ks true
theorem forT_node {b o : Nat} {p : Pay} {T N : BT Pay} {d f : Bool} {ks : List ByteArray} : forT (.node b o p T N) d ks f = (if f then [] else [32]) ++ ((if d then nameT (ks.headD ByteArray.empty).data.toList ++ [32] else []) ++ (objT p T ++ forT N d ks.tail false)) := rfl

/- all of them are good, but for their number and depth -/
def fineF : BT Pay → Prop
  | .nil => True
  | .node _ _ p T N => (flatV p (flen T) = true ∧ fineF T) ∧ fineF N
def fine (p : Pay) (T : BT Pay) : Prop := flatV p (flen T) = true ∧ fineF T
theorem fineF_node {b o : Nat} {p : Pay} {T N : BT Pay} : fineF (.node b o p T N) ↔ fine p T ∧ fineF N := Iff.rfl
theorem goodF_fine : ∀ (T : BT Pay) (nest n : Int), 0 ≤ n → 0 ≤ goodF T nest n → fineF T ∧ goodF T nest n = n + fsize T
  | .nil, _, n, _, h => ⟨trivial, by simp [goodF, fsize]⟩
  | .node _ _ p T N, nest, n, h0, h => by
    rw [goodF_node] at h ⊢
    by_cases hv : goodV p T nest n < 0
    · rw [if_pos hv] at h; omega
    rw [if_neg hv] at h ⊢
    have h1 : fine p T ∧ goodV p T nest n = n + 1 + fsize T := by
      unfold goodV gV at hv ⊢
      split at hv
      · omega
      · rename_i hc
        rw [if_neg hc]
        have hf : flatV p (flen T) = true := by
          cases hh : flatV p (flen T) with
          | true => rfl
          | false => exact absurd (Or.inr hh) hc
        split at hv
        · rename_i hcc
          rw [if_pos hcc]
          split at hv
          · omega
          · rename_i hd
            rw [if_neg hd]
            have := goodF_fine T (nest + 1) (n + 1) (by omega) (by omega)
            exact ⟨⟨hf, this.1⟩, this.2⟩
        · rename_i hcc
          rw [if_neg hcc]
          have := goodF_fine T nest (n + 1) (by omega) (by omega)
          exact ⟨⟨hf, this.1⟩, this.2⟩
    have h2 := goodF_fine N nest _ (by omega) h
    refine ⟨fineF_node.2 ⟨h1.1, h2.1⟩, ?_⟩
    rw [h2.2, h1.2]
    simp only [fsize]
    omega
theorem goodV_fine {p : Pay} {T : BT Pay} (h : decide (0 < goodV p T 0 0) = true) : fine p T ∧ fsize T < 65536 := by
  have h := of_decide_eq_true h
  have hle := goodV_le p T 0 0 (by omega) (by omega)
  have h1 : 0 ≤ goodF (.node 0 0 p T .nil) 0 0 := by
    rw [goodF_node, if_neg (by omega)]
    simp only [goodF]
    omega
  have h2 := goodF_fine _ 0 0 (by omega) h1
  have h3 := h2.2
  rw [goodF_node, if_neg (by omega)] at h3
  simp only [goodF, fsize] at h3
  exact ⟨(fineF_node.1 h2.1).1, by omega⟩

/- how long texts are -/
theorem intT_len (x : Int) (h : -1099511627776 ≤ x ∧ x ≤ 1099511627776) : (intT x).length ≤ 20 := by
  have hl : (decDigits x.natAbs).length ≤ 19 := by rw [← D2.decF_eq 18 x.natAbs (by omega)]; exact D2.decF_len 18 _
  unfold intT
  split <;> simp <;> omega
theorem realT_len (x : Int) (h : -1099511627776 ≤ x ∧ x ≤ 1099511627776) : (D2.textL x).length ≤ 26 := by
  have h1 := D2.dec_len (x.natAbs / 65536) (by omega)
  have h2 : (D2.frac (x.natAbs % 65536)).length ≤ 17 := by
    unfold D2.frac
    split
    · simp
    · have := D2.fdig_len 16 (x.natAbs % 65536); simp only [List.length_cons]; omega
  unfold D2.textL
  simp only [List.length_append]
  split <;> simp <;> omega
theorem nameT_len (l : List UInt8) : (nameT l).length ≤ 3 * l.length + 1 := by
  unfold nameT
  have := flat_len l
  simp only [List.length_cons]
  omega
theorem strT_len (l : List UInt8) : (strT l).length ≤ 2 * l.length + 2 := by
  have h1 := hex_len l
  have h2 := sch_len l
  unfold strT
  split <;> simp only [List.length_cons, List.length_append, List.length_nil] <;> omega
theorem nameB_len {l : List UInt8} (h : nameB l = true) : l.length ≤ 127 := by
  unfold nameB at h
  simp only [Bool.and_eq_true, decide_eq_true_eq] at h
  exact h.1.2
theorem flat_int {p : Pay} {n : Nat} (h : flatV p n = true) (hk : p.kind = 2) : -1099511627776 ≤ p.num ∧ p.num ≤ 1099511627776 := by
  unfold flatV at h
  rw [if_pos hk] at h
  simp only [Bool.and_eq_true, decide_eq_true_eq] at h
  exact h.2
theorem flat_real {p : Pay} {n : Nat} (h : flatV p n = true) (hk : p.kind = 3) : -1099511627776 ≤ p.num ∧ p.num ≤ 1099511627776 := by
  unfold flatV at h
  rw [if_neg (by omega), if_pos hk] at h
  simp only [Bool.and_eq_true, decide_eq_true_eq] at h
  exact h.2.1
theorem flat_name {p : Pay} {n : Nat} (h : flatV p n = true) (hk : p.kind = 4) : p.text.size ≤ 127 := by
  unfold flatV at h
  rw [if_neg (by omega), if_neg (by omega), if_pos hk] at h
  simp only [Bool.and_eq_true] at h
  rw [Lib.size_eq]
  exact nameB_len h.2
theorem flat_str {p : Pay} {n : Nat} (h : flatV p n = true) (hk : p.kind = 5) : p.text.size ≤ 65536 := by
  unfold flatV at h
  rw [if_neg (by omega), if_neg (by omega), if_neg (by omega), if_pos hk] at h
  simp only [Bool.and_eq_true, decide_eq_true_eq] at h
  exact h.2
theorem flat_ref {p : Pay} {n : Nat} (h : flatV p n = true) (hk : p.kind = 8) : 1 ≤ p.num ∧ p.num ≤ 4096 := by
  unfold flatV at h
  rw [if_neg (by omega), if_neg (by omega), if_neg (by omega), if_neg (by omega), if_neg (by omega), if_pos hk] at h
  simp only [Bool.and_eq_true, decide_eq_true_eq] at h
  exact h.2
theorem keysB_len : ∀ (ks : List ByteArray) (seen : List (List UInt8)), keysB seen ks = true → ∀ s ∈ ks, s.size ≤ 127
  | [], _, _, _, hs => by cases hs
  | k :: ks, seen, h, s, hs => by
    unfold keysB at h
    simp only [Bool.and_eq_true] at h
    rcases List.mem_cons.1 hs with rfl | hs
    · rw [Lib.size_eq]; exact nameB_len h.1.1
    · exact keysB_len ks _ h.2 s hs
theorem flat_dict {p : Pay} {n : Nat} (h : flatV p n = true) (hk : p.kind = 7) : p.keys.length = n ∧ ∀ s ∈ p.keys, s.size ≤ 127 := by
  unfold flatV at h
  rw [if_neg (by omega), if_neg (by omega), if_neg (by omega), if_neg (by omega), if_pos hk] at h
  simp only [Bool.and_eq_true, decide_eq_true_eq] at h
  exact ⟨h.2.1, keysB_len _ _ h.2.2⟩
theorem flat_kind {p : Pay} {n : Nat} (h : flatV p n = true) : p.kind = 0 ∨ p.kind = 1 ∨ p.kind = 2 ∨ p.kind = 3 ∨ p.kind = 4 ∨ p.kind = 5 ∨ p.kind = 6 ∨ p.kind = 7 ∨ p.kind = 8 := by
  unfold flatV at h
  simp only [Bool.and_eq_true] at h
  have h := h.2
  by_cases h2 : p.kind = 2; · omega
  by_cases h3 : p.kind = 3; · omega
  by_cases h4 : p.kind = 4; · omega
  by_cases h5 : p.kind = 5; · omega
  by_cases h7 : p.kind = 7; · omega
  by_cases h8 : p.kind = 8; · omega
  rw [if_neg h2, if_neg h3, if_neg h4, if_neg h5, if_neg h7, if_neg h8] at h
  simp only [Bool.or_eq_true, beq_iff_eq] at h
  omega
theorem atomT_len {p : Pay} {n : Nat} (h : flatV p n = true) : (atomT p).length ≤ 131074 := by
  unfold atomT
  split
  · unfold boolT; split <;> simp
  split
  · rename_i hk; have := intT_len _ (flat_int h hk); omega
  split
  · rename_i hk; have := realT_len _ (flat_real h hk); omega
  split
  · rename_i hk
    have h1 := nameT_len p.text.data.toList
    have h2 := flat_name h hk
    rw [Lib.size_eq] at h2
    omega
  split
  · rename_i hk
    have h1 := strT_len p.text.data.toList
    have h2 := flat_str h hk
    rw [Lib.size_eq] at h2
    omega
  split
  · rename_i hk
    have h2 := flat_ref h hk
    have := intT_len p.num (by omega)
    simp only [List.length_append, List.length_cons, List.length_nil]
    omega
  · simp
theorem forT_len : ∀ (T : BT Pay) (d f : Bool) (ks : List ByteArray), fineF T → (d = true → ∀ s ∈ ks, s.size ≤ 127) → (forT T d ks f).length ≤ 132000 * fsize T
  | .nil, _, _, _, _, _ => by simp [forT]
  | .node _ _ p T N, d, f, ks, h, hk => by
    obtain ⟨⟨hf, hT⟩, hN⟩ := h
    rw [forT_node]
    have h1 := forT_len N d false ks.tail hN (fun hd s hs => hk hd s (List.mem_of_mem_tail hs))
    have h2 : (objT p T).length ≤ 131074 + 132000 * fsize T := by
      unfold objT objV
      split
      · have := forT_len T false true [] hT (fun h => by cases h)
        simp only [List.length_cons, List.length_append, List.length_nil]
        omega
      split
      · rename_i hk7
        have := forT_len T true true p.keys hT (fun _ => (flat_dict hf hk7).2)
        simp only [List.length_cons, List.length_append, List.length_nil]
        omega
      · have := atomT_len hf
        omega
    have h3 : (if f then ([] : List UInt8) else [32]).length ≤ 1 := by split <;> simp
    have h4 : (if d then nameT (ks.headD ByteArray.empty).data.toList ++ [32] else ([] : List UInt8)).length ≤ 383 := by
      split
      · rename_i hd
        have h5 := nameT_len (ks.headD ByteArray.empty).data.toList
        have h6 : (ks.headD ByteArray.empty).size ≤ 127 := by
          cases ks with
          | nil => simp
          | cons k ks => exact hk hd k (by simp)
        rw [Lib.size_eq] at h6
        simp only [List.length_append, List.length_cons, List.length_nil]
        omega
      · simp
    simp only [List.length_append, fsize] at *
    omega
theorem objT_len {p : Pay} {T : BT Pay} (h : fine p T) : (objT p T).length ≤ 132000 * (fsize T + 1) := by
  have h1 := forT_len (.node 0 0 p T .nil) false true [] (fineF_node.2 ⟨h, trivial⟩) (fun h => by cases h)
  rw [forT_node] at h1
  simp only [forT, List.append_nil, fsize, if_true, List.nil_append] at h1
  simpa using h1

/- zs is F, or both are too long -/
def St (F zs : List UInt8) : Prop := zs = F ∨ 1048576 < zs.length ∧ zs.length ≤ F.length
theorem St.refl (F : List UInt8) : St F F := Or.inl rfl
theorem St.le {F zs : List UInt8} (h : St F zs) : zs.length ≤ F.length := by
  rcases h with rfl | h
  · exact Nat.le_refl _
  · exact h.2
theorem St.app {F zs : List UInt8} (h : St F zs) (x : List UInt8) : St (F ++ x) (zs ++ x) := by
  rcases h with rfl | h
  · exact Or.inl rfl
  · exact Or.inr ⟨by simp only [List.length_append]; omega, by simp only [List.length_append]; omega⟩
theorem St.trans {F zs t us : List UInt8} (h : St F zs) (k : St (zs ++ t) us) : St (F ++ t) us := by
  rcases h with rfl | h
  · exact k
  · have := k.le
    refine Or.inr ⟨?_, by simp only [List.length_append] at *; omega⟩
    rcases k with rfl | k
    · simp only [List.length_append]; omega
    · exact k.1
theorem St.stop {ys t : List UInt8} (h : 1048576 < ys.length) : St (ys ++ t) ys := Or.inr ⟨h, by simp⟩
end Go.Proofs.YtlnkddmpcicejaaDoor
/-
  What the landed appendObject answers.
-/
namespace Go.Proofs.YtlnkddmpcicejaaDoor
open Go.RowKit Go.Deep

def AoR (B : Nat) (w : World) (F : List UInt8) (e : Ending) (w' : World) : Prop := ∃ v' zs, e = .returned v' ∧ BRow w' B v' zs ∧ St F zs ∧ KB B w w'
def AoIH (W : World) (M : Nat) : Prop := ∀ (p : Pay) (T : BT Pay) (ka : Option Addr) (kc : Nat) (ia : Option Addr) (ic : Nat) (v : Value) (ys : List UInt8) (w : World), fsize T < M → fine p T → OIn W p T ka kc ia ic → Below W.heap.size W w → BRow w W.heap.size v ys →
  ys.length + (objT p T).length + 1000000 ≤ 140737488355328 → Calls Tryd.prog 33 #[v, ov p ka kc ia (flen T) ic] w (AoR W.heap.size w (ys ++ objT p T))
theorem KB.alloc {B : Nat} (w : World) (blk : Obj) (h : B ≤ w.heap.size) : KB B w (w.alloc blk) := ⟨(Below.refl _ _).alloc h _, NB.below ((Below.refl _ _).alloc (Nat.le_refl _) _)⟩
theorem box_nb (w : World) (cs : Array Value) : ∀ c f, (w.alloc (.cells cs 39)).heap[w.heap.size]? ≠ some (.cells c 5 f) := fun c f h => by
  have := Blk.new w cs 39
  unfold Blk at this
  rw [this] at h
  injection h with h
  injection h with _ ht
  exact absurd ht (by decide)
theorem six_nb (w : World) (p : Pay) (ka : Option Addr) (kc : Nat) (ia : Option Addr) (n ic : Nat) {w' : World} (h : NB (w.alloc (.cells (obox p ka kc ia n ic) 39)) w') : Six w' w.heap.size 0 p ka kc ia n ic :=
  (six_box w p ka kc ia n ic 39).nb (by simp) (box_nb w _) h
set_option maxRecDepth 8000 in
set_option maxHeartbeats 1000000 in
theorem aarr_step (W : World) (M : Nat) (ih : AoIH W M) (T : BT Pay) (b off : Nat) (ia : Option Addr) (ic : Nat) (v : Value) (ys : List UInt8) (w : World) (hM : fsize T ≤ M) (hf : fineF T) (hia : T = .nil ∨ (ia = some ⟨b, off, none⟩ ∧ b < W.heap.size)) (hrows : Rows W T b off)
    (hn : flen T ≤ 1599289640401) (hb : Below W.heap.size W w) (h : BRow w W.heap.size v ys) (hl : ys.length + (forT T false [] true).length + 1000002 ≤ 140737488355328) :
    Calls Tryd.prog 43 #[v, .slice ia (flen T) ic] w (AoR W.heap.size w (ys ++ 91 :: (forT T false [] true ++ [93]))) := by
  obtain ⟨v1, w1, hr, hb1, hw1⟩ := app_b3 (W := w) [91] h hb.size (by simp) (by simp; omega) _ rfl
  have IH := hide ih
  have HR := hide hr
  have HB1 := hide hb1
  have HW1 := hide hw1
  have HIA := hide hia
  have HRW := hide hrows
  have HF := hide hf
  have HM := hide hM
  have HL := hide hl
  have HB := hide hb
  have hl1 : (flen T : Int) ≤ 1599289640401 := by omega
  have hl0 : (0 : Int) ≤ (flen T : Int) := by omega
  clear ih hr hb1 hw1 hia hrows hf hM hl hb h hn
  go_enter Tryd.func43, Tryd.ntmps43
  go_wp2_with (at_builtin; refine Lib.wpList_append_run _ rfl _ _ _ _ rfl _ _ rfl rfl _ _ HR.out ?_)
  go_loopw [0, 12] (fun vt vi wr => ∃ (k : Nat) (U : BT Pay) (F zs : List UInt8), vi = .int .i64 k ∧ Hid (flen U + k = flen T ∧ fsize U ≤ fsize T ∧ fineF U ∧ Rows W U b (off + k * 6) ∧ BRow wr W.heap.size vt zs ∧ St F zs ∧ F ++ forT U false [] (decide (k = 0)) = ys ++ 91 :: forT T false [] true ∧ KB W.heap.size w wr)) (fun _ vi _ => flen T - (intOf vi).toNat)
  case atStart => exact ⟨0, T, ys ++ [91], ys ++ [91], rfl, hide ⟨by omega, Nat.le_refl _, HF.out, by simpa using HRW.out, HB1.out, St.refl _, by simp, HW1.out⟩⟩
  case round =>
    clear HB1 HW1 HR HRW HF
    obtain ⟨k, U, F, zs, rfl, HV⟩ := hrel
    obtain ⟨hk, hu, hfu, hrow, hbr, hst, heq, hkb⟩ := HV.out
    clear HV
    have hkk : (0 : Int) ≤ (k : Int) := by omega
    have hbel : Below W.heap.size W wr := HB.out.trans hkb.below
    have hle := hst.le
    have hlen := congrArg List.length heq
    have hL := HL.out
    simp only [List.length_append, List.length_cons] at hlen
    have HKB := hide hkb
    have HST := hide hst
    cases U with
    | nil =>
      have hk' : ¬ k < flen T := by simp [flen] at hk; omega
      obtain ⟨v2, w2, hr2, hb2, hw2⟩ := app_b3 (W := wr) [93] hbr hbel.size (by simp) (by simp only [List.length_singleton]; omega) _ rfl
      have HR2 := hide hr2
      have e : ys ++ 91 :: (forT T false [] true ++ [93]) = F ++ [93] := by
        have := heq
        simp only [forT, List.append_nil] at this
        rw [this]
        simp
      have HFN : Hid (AoR W.heap.size w (ys ++ 91 :: (forT T false [] true ++ [93])) (.returned v2) w2) := hide (by rw [e]; exact ⟨v2, zs ++ [93], rfl, hb2, hst.app [93], hkb.trans hw2⟩)
      clear hk hu hfu hrow hbr hst heq hkb hbel hle hlen hL hr2 hb2 hw2 e HST HKB
      go_wp2_with (at_builtin; refine Lib.wpList_append_run _ rfl _ _ _ _ rfl _ _ rfl rfl _ _ HR2.out ?_)
      go_ret
      exact HFN.out
    | node b0 o0 q TT N =>
      obtain ⟨⟨ka2, kc2, ia2, ic2, g6, gin⟩, grest⟩ := rows_node.1 hrow
      obtain rfl | ⟨rfl, hbz⟩ := HIA.out
      · simp [flen] at hk
      have hlt : k < flen T := by simp [flen] at hk; omega
      have hst' : fsize TT < M := by have := HM.out; simp [fsize] at hu; omega
      obtain ⟨c0, c1, c2, c3, c4, c5⟩ := g6.below hbz hbel
      rw [forT_node] at heq hlen
      simp only [Bool.false_eq_true, if_false, List.nil_append, List.tail_nil] at heq hlen
      have hwA := KB.alloc wr (.cells (obox q ka2 kc2 ia2 (flen TT) ic2) 39) hbel.size
      have hbA : BRow (wr.alloc (.cells (obox q ka2 kc2 ia2 (flen TT) ic2) 39)) W.heap.size u0 zs := World.ownsRow.alloc hbr _
      have HK := hide (show flen N + (k + 1) = flen T ∧ fsize N ≤ fsize T by simp [flen, fsize] at hk hu; omega)
      have HRR := hide (show Rows W N b (off + (k + 1) * 6) by rw [show off + (k + 1) * 6 = off + k * 6 + 6 by omega]; exact grest)
      have HFN := hide hfu.2
      by_cases hk0 : k = 0
      · have g0 : ¬ 0 < k := by omega
        have g1 : ¬ (0 : Int) < (k : Int) := by omega
        rw [decide_eq_true hk0] at heq hlen
        simp only [if_true, List.nil_append] at heq hlen
        simp only [List.length_append] at hlen
        have CI := hide (IH.out q TT ka2 kc2 ia2 ic2 u0 zs _ hst' hfu.1 gin (hbel.trans hwA.below) hbA (by omega))
        have HEQ : Hid (F ++ objT q TT ++ forT N false [] (decide (k + 1 = 0)) = ys ++ 91 :: forT T false [] true) := hide (by rw [← heq]; simp)
        have HWA := hide (hkb.trans hwA)
        clear hk hu hfu hrow hbr hst heq hkb hbel hle hlen hL hwA hbA g6 gin grest hk0 HKB
        go_wp2_with (go_at_call 33; refine CI.out.mono ?_; rintro e wy ⟨v3, us, rfl, hb3, hs3, hk3⟩; have HB3 := hide hb3; have HS3 := hide hs3; have HK3 := hide hk3; clear hb3 hs3 hk3)
        go_roundw
        case rel => exact ⟨k + 1, N, F ++ objT q TT, us, by go_num, hide ⟨HK.out.1, HK.out.2, HFN.out, HRR.out, HB3.out, HST.out.trans HS3.out, HEQ.out, HWA.out.trans HK3.out⟩⟩
        case measure => simp [intOf]; omega
      · have g0 : 0 < k := by omega
        have g1 : (0 : Int) < (k : Int) := by omega
        rw [decide_eq_false hk0] at heq hlen
        simp only [Bool.false_eq_true, if_false] at heq hlen
        simp only [List.length_append, List.length_singleton] at hlen
        obtain ⟨v2, w2, hr2, hb2, hw2⟩ := app_b3 (W := wr.alloc (.cells (obox q ka2 kc2 ia2 (flen TT) ic2) 39)) [32] hbA (Nat.le_trans hbel.size hwA.size) (by simp) (by simp only [List.length_singleton]; omega) (wr.heap.size + 1) (by simp)
        have HR2 := hide hr2
        obtain ⟨s0, s1, s2, s3, s4, s5⟩ := six_nb wr q ka2 kc2 ia2 (flen TT) ic2 hw2.nb
        simp only [Nat.zero_add] at s1 s2 s3 s4 s5
        have CI := hide (IH.out q TT ka2 kc2 ia2 ic2 v2 (zs ++ [32]) w2 hst' hfu.1 gin ((hbel.trans hwA.below).trans hw2.below) hb2 (by simp only [List.length_append, List.length_singleton]; omega))
        have HEQ : Hid (F ++ [32] ++ objT q TT ++ forT N false [] (decide (k + 1 = 0)) = ys ++ 91 :: forT T false [] true) := hide (by rw [← heq]; simp)
        have HWA := hide ((hkb.trans hwA).trans hw2)
        clear hk hu hfu hrow hbr hst heq hkb hbel hle hlen hL hwA hbA g6 gin grest hk0 HKB hr2 hb2 hw2
        go_wp2_with (first | (at_builtin; refine Lib.wpList_append_run _ rfl _ _ _ _ rfl _ _ rfl rfl _ _ HR2.out ?_) | (go_at_call 33; refine CI.out.mono ?_; rintro e wy ⟨v3, us, rfl, hb3, hs3, hk3⟩; have HB3 := hide hb3; have HS3 := hide hs3; have HK3 := hide hk3; clear hb3 hs3 hk3))
        go_roundw
        case rel => exact ⟨k + 1, N, F ++ [32] ++ objT q TT, us, by go_num, hide ⟨HK.out.1, HK.out.2, HFN.out, HRR.out, HB3.out, (HST.out.app [32]).trans HS3.out, HEQ.out, HWA.out.trans HK3.out⟩⟩
        case measure => simp [intOf]; omega
end Go.Proofs.YtlnkddmpcicejaaDoor
/-
  What the landed appendDict answers.
-/
namespace Go.Proofs.YtlnkddmpcicejaaDoor
open Go.RowKit Go.Deep

theorem headD_drop (l : List ByteArray) (k : Nat) : (l.drop k).headD ByteArray.empty = l.getD k ByteArray.empty := by
  rw [List.headD_eq_head?_getD, List.head?_drop, List.getD_eq_getElem?_getD]
theorem getD_mem {l : List ByteArray} {k : Nat} (h : k < l.length) : l.getD k ByteArray.empty ∈ l := by
  rw [List.getD_eq_getElem?_getD, List.getElem?_eq_getElem h]
  exact List.getElem_mem h
set_option maxRecDepth 8000 in
set_option maxHeartbeats 1000000 in
theorem adict_step (W : World) (M : Nat) (ih : AoIH W M) (p : Pay) (T : BT Pay) (b off : Nat) (ka : Option Addr) (kc : Nat) (ia : Option Addr) (ic : Nat) (v : Value) (ys : List UInt8) (w : World) (hM : fsize T ≤ M) (hf : fineF T) (hks : p.keys.length = flen T ∧ ∀ s ∈ p.keys, s.size ≤ 127) (hin : OIn W p T ka kc ia ic)
    (hia : T = .nil ∨ (ia = some ⟨b, off, none⟩ ∧ b < W.heap.size)) (hrows : Rows W T b off) (hb : Below W.heap.size W w) (h : BRow w W.heap.size v ys) (hl : ys.length + (forT T true p.keys true).length + 1000004 ≤ 140737488355328) :
    Calls Tryd.prog 44 #[v, ov p ka kc ia (flen T) ic] w (AoR W.heap.size w (ys ++ 60 :: 60 :: (forT T true p.keys true ++ [62, 62]))) := by
  have hwA := KB.alloc w (.cells (obox p ka kc ia (flen T) ic) 39) hb.size
  obtain ⟨v1, w1, hr, hb1, hw1⟩ := app_s3 (W := w.alloc (.cells (obox p ka kc ia (flen T) ic) 39)) ⟨#[60, 60]⟩ (World.ownsRow.alloc h _) (Nat.le_trans hb.size hwA.size) (by show _ + 2 ≤ _; omega)
  have IH := hide ih
  have HR := hide hr
  have HB1 := hide hb1
  have HW1 := hide hw1
  have HWA := hide hwA
  have HIA := hide hia
  have HRW := hide hrows
  have HF := hide hf
  have HM := hide hM
  have HL := hide hl
  have HB := hide (hb.trans hwA.below)
  have HKS := hide hks
  have HS := hide hin.2.1.1
  obtain ⟨r0, r1, r2, r3, r4, r5⟩ := six_nb w p ka kc ia (flen T) ic hw1.nb
  simp only [Nat.zero_add] at r1 r2 r3 r4 r5
  have SX := hide (fun x (hx : NB (w.alloc (.cells (obox p ka kc ia (flen T) ic) 39)) x) => six_nb w p ka kc ia (flen T) ic hx)
  have hl2 : (p.keys.length : Int) ≤ 8796093022208 := by have := hin.2.1.2.1.2; omega
  have hl0 : (0 : Int) ≤ (p.keys.length : Int) := by omega
  have hl3 : (flen T : Int) ≤ 1599289640401 := by have := hin.2.2.1.2; omega
  clear ih hr hb1 hw1 hia hrows hf hM hl hb h hwA hin hks
  go_enter Tryd.func44, Tryd.ntmps44
  go_wp2_with (at_builtin; refine Lib.wpList_append_run _ rfl _ _ _ _ rfl _ _ rfl rfl _ _ HR.out ?_)
  clear r0 r1 r2 r3 r4 r5
  go_loopw [0, 12] (fun vt vi wr => ∃ (k : Nat) (U : BT Pay) (F zs : List UInt8), vi = .int .i64 k ∧ Hid (flen U + k = flen T ∧ fsize U ≤ fsize T ∧ fineF U ∧ Rows W U b (off + k * 6) ∧ BRow wr W.heap.size vt zs ∧ St F zs ∧ F ++ forT U true (p.keys.drop k) (decide (k = 0)) = ys ++ 60 :: 60 :: forT T true p.keys true ∧ KB W.heap.size (w.alloc (.cells (obox p ka kc ia (flen T) ic) 39)) wr)) (fun _ vi _ => flen T - (intOf vi).toNat)
  case atStart => exact ⟨0, T, ys ++ [60, 60], ys ++ [60, 60], rfl, hide ⟨by omega, Nat.le_refl _, HF.out, by simpa using HRW.out, HB1.out, St.refl _, by simp, HW1.out⟩⟩
  case round =>
    clear HB1 HW1 HR HRW HF
    obtain ⟨k, U, F, zs, rfl, HV⟩ := hrel
    obtain ⟨hk, hu, hfu, hrow, hbr, hst, heq, hkb⟩ := HV.out
    clear HV
    have hkk : (0 : Int) ≤ (k : Int) := by omega
    have hbel : Below W.heap.size W wr := HB.out.trans hkb.below
    have hle := hst.le
    have hlen := congrArg List.length heq
    have hL := HL.out
    simp only [List.length_append, List.length_cons] at hlen
    have HKB := hide hkb
    have HST := hide hst
    cases U with
    | nil =>
      have hk' : ¬ k < p.keys.length := by rw [HKS.out.1]; simp [flen] at hk; omega
      obtain ⟨v2, w2, hr2, hb2, hw2⟩ := app_s3 (W := wr) ⟨#[62, 62]⟩ hbr hbel.size (by show _ + 2 ≤ _; omega)
      have HR2 := hide hr2
      have e : ys ++ 60 :: 60 :: (forT T true p.keys true ++ [62, 62]) = F ++ [62, 62] := by
        have := heq
        simp only [forT, List.append_nil] at this
        rw [this]
        simp
      have HFN : Hid (AoR W.heap.size w (ys ++ 60 :: 60 :: (forT T true p.keys true ++ [62, 62])) (.returned v2) w2) := hide (by rw [e]; exact ⟨v2, zs ++ [62, 62], rfl, hb2, hst.app [62, 62], (HWA.out.trans hkb).trans hw2⟩)
      clear hk hu hfu hrow hbr hst heq hkb hbel hle hlen hL hr2 hb2 hw2 e HST HKB
      go_wp2_with (at_builtin; refine Lib.wpList_append_run _ rfl _ _ _ _ rfl _ _ rfl rfl _ _ HR2.out ?_)
      go_ret
      exact HFN.out
    | node b0 o0 q TT N =>
      obtain ⟨⟨ka2, kc2, ia2, ic2, g6, gin⟩, grest⟩ := rows_node.1 hrow
      obtain rfl | ⟨rfl, hbz⟩ := HIA.out
      · simp [flen] at hk
      have hlt' : k < flen T := by simp [flen] at hk; omega
      have hlt : k < p.keys.length := by rw [HKS.out.1]; exact hlt'
      have hst' : fsize TT < M := by have := HM.out; simp [fsize] at hu; omega
      obtain ⟨bk, ok, rfl, hkz, hkey⟩ := HS.out.get hlt
      have hkc := (hbel.cell (p := ⟨bk, ok + k, none⟩) hkz).trans (hkey k hlt)
      have hsz := HKS.out.2 _ (getD_mem hlt)
      rw [forT_node, headD_drop, List.tail_drop] at heq hlen
      generalize p.keys.getD k ByteArray.empty = key at hkc hsz heq hlen
      simp only [if_true] at heq hlen
      have G6 := hide g6
      have HK := hide (show flen N + (k + 1) = flen T ∧ fsize N ≤ fsize T by simp [flen, fsize] at hk hu; omega)
      have HRR := hide (show Rows W N b (off + (k + 1) * 6) by rw [show off + (k + 1) * 6 = off + k * 6 + 6 by omega]; exact grest)
      have HFN := hide hfu.2
      have CI := hide (fun v ys w => IH.out q TT ka2 kc2 ia2 ic2 v ys w hst' hfu.1 gin)
      have HBE := hide hbel
      by_cases hk0 : k = 0
      · have g0 : ¬ 0 < k := by omega
        have g1 : ¬ (0 : Int) < (k : Int) := by omega
        rw [decide_eq_true hk0] at heq hlen
        simp only [if_true, List.nil_append] at heq hlen
        simp only [List.length_append, List.length_singleton] at hlen
        have CN := hide (appendName_kb u0 (zs) W.heap.size key wr hbr (hbel.size) (by omega))
        have HLN : Hid ((zs).length + (nameT key.data.toList).length + 1 + (objT q TT).length + 1000000 ≤ 140737488355328) := hide (by omega)
        have HEQ : Hid (F ++ nameT key.data.toList ++ [32] ++ objT q TT ++ forT N true (p.keys.drop (k + 1)) (decide (k + 1 = 0)) = ys ++ 60 :: 60 :: forT T true p.keys true) := hide (by rw [← heq]; simp)
        have HS2 : Hid (St (F ++ nameT key.data.toList ++ [32]) (zs ++ nameT key.data.toList ++ [32])) := hide ((hst.app _).app _)
        clear hk hu hfu hrow hbr hst heq hkb hbel hle hlen hL g6 gin grest hk0 hkey hsz
        go_wp2_with (first
          
          | (go_at_call 41; refine CN.out.mono ?_; rintro e wy ⟨v3, rfl, hb3, hw3⟩; have HQ := hide ((HKB.out).trans hw3); obtain ⟨v4, w4, hr4, hb4, hw4⟩ := app_b3 (W := wy) [32] hb3 (Nat.le_trans HB.out.size HQ.out.size) (by simp) (by have := HLN.out; simp only [List.length_append, List.length_singleton] at this ⊢; omega) _ rfl; have HR4 := hide hr4; have HK4 := hide (HQ.out.trans hw4); have hbe4 := HB.out.trans HK4.out.below; have CI4 := hide (CI.out v4 _ w4 hbe4 hb4 (by have := HLN.out; simp only [List.length_append, List.length_singleton] at this ⊢; omega)); obtain ⟨s0, s1, s2, s3, s4, s5⟩ := SX.out w4 HK4.out.nb; simp only [Nat.zero_add] at s1 s2 s3 s4 s5; obtain ⟨c0, c1, c2, c3, c4, c5⟩ := G6.out.below hbz hbe4; clear hb3 hw3 hr4 hb4 hw4 hbe4)
          | (at_builtin; refine Lib.wpList_append_run _ rfl _ _ _ _ rfl _ _ rfl rfl _ _ HR4.out ?_)
          | (go_at_call 33; refine CI4.out.mono ?_; rintro e wz ⟨v5, us, rfl, hb5, hs5, hk5⟩; have HB5 := hide hb5; have HS5 := hide hs5; have HK5 := hide hk5; clear hb5 hs5 hk5))
        go_roundw
        case rel => exact ⟨k + 1, N, F ++ nameT key.data.toList ++ [32] ++ objT q TT, us, by go_num, hide ⟨HK.out.1, HK.out.2, HFN.out, HRR.out, HB5.out, HS2.out.trans HS5.out, HEQ.out, HK4.out.trans HK5.out⟩⟩
        case measure => simp [intOf]; omega
      · have g0 : 0 < k := by omega
        have g1 : (0 : Int) < (k : Int) := by omega
        rw [decide_eq_false hk0] at heq hlen
        simp only [Bool.false_eq_true, if_false] at heq hlen
        simp only [List.length_append, List.length_singleton] at hlen
        obtain ⟨v2, w2, hr2, hb2, hw2⟩ := app_b3 (W := wr) [32] hbr hbel.size (by simp) (by simp only [List.length_singleton]; omega) _ rfl
        have HR2 := hide hr2
        have HK2 := hide hw2
        clear hr2
        have CN := hide (appendName_kb v2 (zs ++ [32]) W.heap.size key w2 hb2 (Nat.le_trans hbel.size hw2.size) (by simp only [List.length_append, List.length_singleton]; omega))
        have HLN : Hid ((zs ++ [32]).length + (nameT key.data.toList).length + 1 + (objT q TT).length + 1000000 ≤ 140737488355328) := hide (by simp only [List.length_append, List.length_singleton]; omega)
        have HEQ : Hid (F ++ [32] ++ nameT key.data.toList ++ [32] ++ objT q TT ++ forT N true (p.keys.drop (k + 1)) (decide (k + 1 = 0)) = ys ++ 60 :: 60 :: forT T true p.keys true) := hide (by rw [← heq]; simp)
        have HS2 : Hid (St (F ++ [32] ++ nameT key.data.toList ++ [32]) (zs ++ [32] ++ nameT key.data.toList ++ [32])) := hide (((hst.app [32]).app _).app _)
        clear hk hu hfu hrow hbr hst heq hkb hbel hle hlen hL g6 gin grest hk0 hkey hsz hb2 hw2
        go_wp2_with (first
          | (at_builtin; refine Lib.wpList_append_run _ rfl _ _ _ _ rfl _ _ rfl rfl _ _ HR2.out ?_)
          | (go_at_call 41; refine CN.out.mono ?_; rintro e wy ⟨v3, rfl, hb3, hw3⟩; have HQ := hide ((HKB.out.trans HK2.out).trans hw3); obtain ⟨v4, w4, hr4, hb4, hw4⟩ := app_b3 (W := wy) [32] hb3 (Nat.le_trans HB.out.size HQ.out.size) (by simp) (by have := HLN.out; simp only [List.length_append, List.length_singleton] at this ⊢; omega) _ rfl; have HR4 := hide hr4; have HK4 := hide (HQ.out.trans hw4); have hbe4 := HB.out.trans HK4.out.below; have CI4 := hide (CI.out v4 _ w4 hbe4 hb4 (by have := HLN.out; simp only [List.length_append, List.length_singleton] at this ⊢; omega)); obtain ⟨s0, s1, s2, s3, s4, s5⟩ := SX.out w4 HK4.out.nb; simp only [Nat.zero_add] at s1 s2 s3 s4 s5; obtain ⟨c0, c1, c2, c3, c4, c5⟩ := G6.out.below hbz hbe4; clear hb3 hw3 hr4 hb4 hw4 hbe4)
          | (at_builtin; refine Lib.wpList_append_run _ rfl _ _ _ _ rfl _ _ rfl rfl _ _ HR4.out ?_)
          | (go_at_call 33; refine CI4.out.mono ?_; rintro e wz ⟨v5, us, rfl, hb5, hs5, hk5⟩; have HB5 := hide hb5; have HS5 := hide hs5; have HK5 := hide hk5; clear hb5 hs5 hk5))
        go_roundw
        case rel => exact ⟨k + 1, N, F ++ [32] ++ nameT key.data.toList ++ [32] ++ objT q TT, us, by go_num, hide ⟨HK.out.1, HK.out.2, HFN.out, HRR.out, HB5.out, HS2.out.trans HS5.out, HEQ.out, HK4.out.trans HK5.out⟩⟩
        case measure => simp [intOf]; omega
end Go.Proofs.YtlnkddmpcicejaaDoor
/-
  What the landed appendObject and Print answer: of any good object.
-/
namespace Go.Proofs.YtlnkddmpcicejaaDoor
open Go.RowKit Go.Deep

theorem BRow.later {w w' : World} {B : Nat} {v : Value} {ys : List UInt8} (h : BRow w B v ys) (hb : Below w.heap.size w w') : BRow w' B v ys := ownsRow_kept h fun k _ h2 => hb.block k h2
theorem KB.of_below {B : Nat} {w w' : World} (hB : B ≤ w.heap.size) (h : Below w.heap.size w w') : KB B w w' := ⟨h.mono hB, NB.below h⟩
set_option maxRecDepth 8000 in
set_option maxHeartbeats 1000000 in
theorem ao_stop (p : Pay) (n : Nat) (ka : Option Addr) (kc : Nat) (ia : Option Addr) (ic : Nat) (v : Value) (ys : List UInt8) (B : Nat) (w : World) (h : BRow w B v ys) (hB : B ≤ w.heap.size) (hlt : 1048576 < ys.length) (hmx : ys.length ≤ 140737488355328) :
    Calls Tryd.prog 33 #[v, ov p ka kc ia n ic] w fun e w' => e = .returned v ∧ BRow w' B v ys ∧ KB B w w' := by
  obtain ⟨a, cap, rfl⟩ := h.shape
  have HB := hide (World.ownsRow.alloc h (.cells (obox p ka kc ia n ic) 39))
  have HK := hide (KB.alloc w (.cells (obox p ka kc ia n ic) 39) hB)
  have g : decide ((1048576 : Int) < (ys.length : Int)) = true := by simp; omega
  clear h hB hlt hmx
  go_enter Tryd.func33, Tryd.ntmps33
  go_wp2_with fail
  go_ret
  exact ⟨rfl, HB.out, HK.out⟩
def AtR (B : Nat) (w : World) (F : List UInt8) (e : Ending) (w' : World) : Prop := ∃ v', e = .returned v' ∧ BRow w' B v' F ∧ KB B w w'
set_option maxRecDepth 8000 in
set_option maxHeartbeats 1000000 in
theorem ao_atom (p : Pay) (n : Nat) (ka : Option Addr) (kc : Nat) (ia : Option Addr) (ic : Nat) (v : Value) (ys : List UInt8) (B : Nat) (w : World) (hf : flatV p n = true) (h6 : p.kind ≠ 6) (h7 : p.kind ≠ 7) (h : BRow w B v ys) (hB : B ≤ w.heap.size) (hle : ys.length ≤ 1048576) (hg : D2.Glo w)
    (ht : Lib.TabBelow Tryd.prog B w "internal/strconv.uint64pow10" .u64 Lib.pow10Tab) :
    Calls Tryd.prog 33 #[v, ov p ka kc ia n ic] w (AtR B w (ys ++ atomT p)) := by
  obtain ⟨a, cap, rfl⟩ := h.shape
  have g : decide ((1048576 : Int) < (ys.length : Int)) = false := by simp; omega
  have hbA : BRow (w.alloc (.cells (obox p ka kc ia n ic) 39)) B (.slice a ys.length cap) ys := World.ownsRow.alloc h (.cells (obox p ka kc ia n ic) 39)
  have HK := hide (KB.alloc w (.cells (obox p ka kc ia n ic) 39) hB)
  have hBA := Nat.le_trans hB HK.out.size
  have HG := hide (hg.below ((Below.refl _ _).alloc (Nat.le_refl _) (.cells (obox p ka kc ia n ic) 39)))
  have HT := hide (ht.on HK.out.below)
  rcases flat_kind hf with hk | hk | hk | hk | hk | hk | hk | hk | hk
  · have e0 : atomT p = [110, 117, 108, 108] := by unfold atomT; rw [hk]; rfl
    rw [e0]
    obtain ⟨v2, w2, hr2, hb2, hw2⟩ := app_s3 ⟨#[110, 117, 108, 108]⟩ hbA hBA (by show _ + 4 ≤ _; omega)
    have e1 : (p.kind == 1) = false := by rw [hk]; rfl
    have e2 : (p.kind == 2) = false := by rw [hk]; rfl
    have e3 : (p.kind == 3) = false := by rw [hk]; rfl
    have e4 : (p.kind == 4) = false := by rw [hk]; rfl
    have e5 : (p.kind == 5) = false := by rw [hk]; rfl
    have e6 : (p.kind == 6) = false := by rw [hk]; rfl
    have e7 : (p.kind == 7) = false := by rw [hk]; rfl
    have e8 : (p.kind == 8) = false := by rw [hk]; rfl
    have HR := hide hr2
    have HF : Hid (AtR B w (ys ++ [110, 117, 108, 108]) (.returned v2) w2) := hide ⟨v2, rfl, hb2, HK.out.trans hw2⟩
    clear e0 hk h hB hle hg ht hbA hBA HG HT hf h6 h7 hr2 hb2 hw2 HK
    go_enter Tryd.func33, Tryd.ntmps33
    go_wp2_with (at_builtin; refine Lib.wpList_append_run _ rfl _ _ _ _ rfl _ _ rfl rfl _ _ HR.out ?_)
    go_ret
    exact HF.out
  · have e0 : atomT p = boolT p.flag := by unfold atomT; rw [hk]; rfl
    rw [e0]
    have C := hide (appendBool_kb _ ys B p.flag _ hbA hBA (by omega))
    have e1 : (p.kind == 1) = true := by rw [hk]; rfl
    clear e0 hk h hB hle hg ht hbA hBA HG HT hf h6 h7
    go_enter Tryd.func33, Tryd.ntmps33
    go_wp2_with (go_at_call 38; refine C.out.mono ?_; rintro e wy ⟨v3, rfl, hb3, hw3⟩; have HF : Hid (AtR B w (ys ++ boolT p.flag) (.returned v3) wy) := hide ⟨v3, rfl, hb3, HK.out.trans hw3⟩; clear hb3 hw3)
    go_ret
    exact HF.out
  · have e0 : atomT p = intT p.num := by unfold atomT; rw [hk]; rfl
    rw [e0]
    have hn := flat_int hf hk
    have C := hide (appendInt_kb _ ys B p.num _ (by omega) (by omega) hbA hBA (by omega) HT.out)
    rw [itoa_intT] at C
    have e1 : (p.kind == 1) = false := by rw [hk]; rfl
    have e2 : (p.kind == 2) = true := by rw [hk]; rfl
    clear e0 hk h hB hle hg ht hbA hBA HG HT hf h6 h7 hn
    go_enter Tryd.func33, Tryd.ntmps33
    go_wp2_with (go_at_call 39; refine C.out.mono ?_; rintro e wy ⟨v3, rfl, hb3, hw3⟩; have HF : Hid (AtR B w (ys ++ intT p.num) (.returned v3) wy) := hide ⟨v3, rfl, hb3, HK.out.trans hw3⟩; clear hb3 hw3)
    go_ret
    exact HF.out
  · have e0 : atomT p = D2.textL p.num := by unfold atomT; rw [hk]; rfl
    rw [e0]
    have hn := flat_real hf hk
    have hlen := realT_len _ hn
    have C := D2.text_any p.num _ HG.out
    rw [show D2.textV p.num = .tuple #[.string ⟨(D2.textL p.num).toArray⟩, .bool true] by unfold D2.textV; rw [if_pos (by unfold inB; exact decide_eq_true hn)]] at C
    have C := hide C
    generalize D2.textL p.num = L at C hlen
    have AP := hide (fun x (hx : Below (w.alloc (.cells (obox p ka kc ia n ic) 39)).heap.size (w.alloc (.cells (obox p ka kc ia n ic) 39)) x) => app_s3 (W := x) ⟨L.toArray⟩ (hbA.later hx) (Nat.le_trans hBA hx.size) (by rw [show (⟨L.toArray⟩ : ByteArray).size = L.length by simp [ByteArray.size]]; omega))
    have HKB := hide (fun x (hx : Below (w.alloc (.cells (obox p ka kc ia n ic) 39)).heap.size (w.alloc (.cells (obox p ka kc ia n ic) 39)) x) => HK.out.trans (KB.of_below hBA hx))
    have e1 : (p.kind == 1) = false := by rw [hk]; rfl
    have e2 : (p.kind == 2) = false := by rw [hk]; rfl
    have e3 : (p.kind == 3) = true := by rw [hk]; rfl
    clear e0 hk h hB hle hg ht hbA hBA HG HT hf h6 h7 hn hlen
    go_enter Tryd.func33, Tryd.ntmps33
    go_wp2_with (first
      | (go_at_call 40; refine C.out.mono ?_; rintro e wy ⟨rfl, hy⟩; obtain ⟨v2, w2, hr2, hb2, hw2⟩ := AP.out wy hy; have HR := hide hr2; have HF : Hid (AtR B w (ys ++ L) (.returned v2) w2) := hide ⟨v2, rfl, hb2, (HKB.out _ hy).trans hw2⟩; clear hr2 hb2 hw2 hy)
      | (at_builtin; refine Lib.wpList_append_run _ rfl _ _ _ _ rfl _ _ rfl rfl _ _ HR.out ?_))
    go_ret
    exact HF.out
  · have e0 : atomT p = nameT p.text.data.toList := by unfold atomT; rw [hk]; rfl
    rw [e0]
    have hn := flat_name hf hk
    have C := hide (appendName_kb _ ys B p.text _ hbA hBA (by omega))
    have e1 : (p.kind == 1) = false := by rw [hk]; rfl
    have e2 : (p.kind == 2) = false := by rw [hk]; rfl
    have e3 : (p.kind == 3) = false := by rw [hk]; rfl
    have e4 : (p.kind == 4) = true := by rw [hk]; rfl
    clear e0 hk h hB hle hg ht hbA hBA HG HT hf h6 h7 hn
    go_enter Tryd.func33, Tryd.ntmps33
    go_wp2_with (go_at_call 41; refine C.out.mono ?_; rintro e wy ⟨v3, rfl, hb3, hw3⟩; have HF : Hid (AtR B w (ys ++ nameT p.text.data.toList) (.returned v3) wy) := hide ⟨v3, rfl, hb3, HK.out.trans hw3⟩; clear hb3 hw3)
    go_ret
    exact HF.out
  · have e0 : atomT p = strT p.text.data.toList := by unfold atomT; rw [hk]; rfl
    rw [e0]
    have hn := flat_str hf hk
    have C := hide (appendString_kb _ ys B p.text _ hbA hBA (by omega))
    have e1 : (p.kind == 1) = false := by rw [hk]; rfl
    have e2 : (p.kind == 2) = false := by rw [hk]; rfl
    have e3 : (p.kind == 3) = false := by rw [hk]; rfl
    have e4 : (p.kind == 4) = false := by rw [hk]; rfl
    have e5 : (p.kind == 5) = true := by rw [hk]; rfl
    clear e0 hk h hB hle hg ht hbA hBA HG HT hf h6 h7 hn
    go_enter Tryd.func33, Tryd.ntmps33
    go_wp2_with (go_at_call 42; refine C.out.mono ?_; rintro e wy ⟨v3, rfl, hb3, hw3⟩; have HF : Hid (AtR B w (ys ++ strT p.text.data.toList) (.returned v3) wy) := hide ⟨v3, rfl, hb3, HK.out.trans hw3⟩; clear hb3 hw3)
    go_ret
    exact HF.out
  · exact absurd hk h6
  · exact absurd hk h7
  · have e0 : atomT p = intT p.num ++ [32, 48, 32, 82] := by unfold atomT; rw [hk]; rfl
    rw [e0]
    have hn := flat_ref hf hk
    have hlen := intT_len p.num (by omega)
    have C := hide (appendInt_kb _ ys B p.num _ (by omega) (by omega) hbA hBA (by omega) HT.out)
    rw [itoa_intT] at C
    have AP := hide (fun x v (hx : BRow x B v (ys ++ intT p.num)) (hy : B ≤ x.heap.size) => app_s3 (W := x) ⟨#[32, 48, 32, 82]⟩ hx hy (by show _ + 4 ≤ _; simp only [List.length_append]; omega))
    have HBA := hide hBA
    have e1 : (p.kind == 1) = false := by rw [hk]; rfl
    have e2 : (p.kind == 2) = false := by rw [hk]; rfl
    have e3 : (p.kind == 3) = false := by rw [hk]; rfl
    have e4 : (p.kind == 4) = false := by rw [hk]; rfl
    have e5 : (p.kind == 5) = false := by rw [hk]; rfl
    have e6 : (p.kind == 6) = false := by rw [hk]; rfl
    have e7 : (p.kind == 7) = false := by rw [hk]; rfl
    have e8 : (p.kind == 8) = true := by rw [hk]; rfl
    clear e0 hk h hB hle hg ht hbA hBA HG HT hf h6 h7 hn hlen
    go_enter Tryd.func33, Tryd.ntmps33
    go_wp2_with (first
      | (go_at_call 39; refine C.out.mono ?_; rintro e wy ⟨v3, rfl, hb3, hw3⟩; obtain ⟨v2, w2, hr2, hb2, hw2⟩ := AP.out wy v3 hb3 (Nat.le_trans HBA.out hw3.size); have HR := hide hr2; have HF : Hid (AtR B w (ys ++ (intT p.num ++ [32, 48, 32, 82])) (.returned v2) w2) := hide ⟨v2, rfl, by rw [← List.append_assoc]; exact hb2, (HK.out.trans hw3).trans hw2⟩; clear hb3 hw3 hr2 hb2 hw2)
      | (at_builtin; refine Lib.wpList_append_run _ rfl _ _ _ _ rfl _ _ rfl rfl _ _ HR.out ?_))
    go_ret
    exact HF.out
set_option maxRecDepth 8000 in
set_option maxHeartbeats 1000000 in
theorem ao_arr (W : World) (M : Nat) (ih : AoIH W M) (p : Pay) (T : BT Pay) (ka : Option Addr) (kc : Nat) (ia : Option Addr) (ic : Nat) (v : Value) (ys : List UInt8) (w : World) (h6 : p.kind = 6) (hM : fsize T ≤ M) (hf : fine p T) (hin : OIn W p T ka kc ia ic) (hb : Below W.heap.size W w) (h : BRow w W.heap.size v ys)
    (hlong : ys.length ≤ 1048576) (hl : ys.length + (forT T false [] true).length + 1000002 ≤ 140737488355328) : Calls Tryd.prog 33 #[v, ov p ka kc ia (flen T) ic] w (AoR W.heap.size w (ys ++ 91 :: (forT T false [] true ++ [93]))) := by
  obtain ⟨b, off, hia, hrows⟩ := hin.at_
  have hk := KB.alloc w (.cells (obox p ka kc ia (flen T) ic) 39) hb.size
  have C := hide (aarr_step W M ih T b off ia ic v ys _ hM hf.2 hia hrows hin.2.2.1.2 (hb.trans hk.below) (World.ownsRow.alloc h (.cells (obox p ka kc ia (flen T) ic) 39)) hl)
  obtain ⟨a, cap, rfl⟩ := h.shape
  have HK := hide hk
  have g : decide ((1048576 : Int) < (ys.length : Int)) = false := by simp; omega
  have e1 : (p.kind == 1) = false := by rw [h6]; rfl
  have e2 : (p.kind == 2) = false := by rw [h6]; rfl
  have e3 : (p.kind == 3) = false := by rw [h6]; rfl
  have e4 : (p.kind == 4) = false := by rw [h6]; rfl
  have e5 : (p.kind == 5) = false := by rw [h6]; rfl
  have e6 : (p.kind == 6) = true := by rw [h6]; rfl
  clear h6 hia hrows hk hl hb h hin hf hM ih hlong
  go_enter Tryd.func33, Tryd.ntmps33
  go_wp2_with (go_at_call 43; refine C.out.mono ?_; rintro e wy ⟨v3, zs, rfl, hb3, hs3, hw3⟩; have HF : Hid (AoR W.heap.size w (ys ++ 91 :: (forT T false [] true ++ [93])) (.returned v3) wy) := hide ⟨v3, zs, rfl, hb3, hs3, HK.out.trans hw3⟩; clear hb3 hs3 hw3)
  go_ret
  exact HF.out
set_option maxRecDepth 8000 in
set_option maxHeartbeats 1000000 in
theorem ao_dict (W : World) (M : Nat) (ih : AoIH W M) (p : Pay) (T : BT Pay) (ka : Option Addr) (kc : Nat) (ia : Option Addr) (ic : Nat) (v : Value) (ys : List UInt8) (w : World) (h7 : p.kind = 7) (hM : fsize T ≤ M) (hf : fine p T) (hin : OIn W p T ka kc ia ic) (hb : Below W.heap.size W w) (h : BRow w W.heap.size v ys)
    (hlong : ys.length ≤ 1048576) (hl : ys.length + (forT T true p.keys true).length + 1000004 ≤ 140737488355328) : Calls Tryd.prog 33 #[v, ov p ka kc ia (flen T) ic] w (AoR W.heap.size w (ys ++ 60 :: 60 :: (forT T true p.keys true ++ [62, 62]))) := by
  obtain ⟨b, off, hia, hrows⟩ := hin.at_
  have hk := KB.alloc w (.cells (obox p ka kc ia (flen T) ic) 39) hb.size
  have C := hide (adict_step W M ih p T b off ka kc ia ic v ys _ hM hf.2 (flat_dict hf.1 h7) hin hia hrows (hb.trans hk.below) (World.ownsRow.alloc h (.cells (obox p ka kc ia (flen T) ic) 39)) hl)
  obtain ⟨a, cap, rfl⟩ := h.shape
  have HK := hide hk
  have g : decide ((1048576 : Int) < (ys.length : Int)) = false := by simp; omega
  have e1 : (p.kind == 1) = false := by rw [h7]; rfl
  have e2 : (p.kind == 2) = false := by rw [h7]; rfl
  have e3 : (p.kind == 3) = false := by rw [h7]; rfl
  have e4 : (p.kind == 4) = false := by rw [h7]; rfl
  have e5 : (p.kind == 5) = false := by rw [h7]; rfl
  have e6 : (p.kind == 6) = false := by rw [h7]; rfl
  have e7 : (p.kind == 7) = true := by rw [h7]; rfl
  clear h7 hia hrows hk hl hb h hin hf hM ih hlong
  go_enter Tryd.func33, Tryd.ntmps33
  go_wp2_with (go_at_call 44; refine C.out.mono ?_; rintro e wy ⟨v3, zs, rfl, hb3, hs3, hw3⟩; have HF : Hid (AoR W.heap.size w (ys ++ 60 :: 60 :: (forT T true p.keys true ++ [62, 62])) (.returned v3) wy) := hide ⟨v3, zs, rfl, hb3, hs3, HK.out.trans hw3⟩; clear hb3 hs3 hw3)
  go_ret
  exact HF.out
theorem len_arr (y K C : Nat) (L : List UInt8) (h : y + (91 :: (L ++ [93])).length + C ≤ K) : y + L.length + (C + 2) ≤ K := by
  rw [List.length_cons, List.length_append, List.length_singleton] at h
  omega
theorem len_dict (y K C : Nat) (L : List UInt8) (h : y + (60 :: 60 :: (L ++ [62, 62])).length + C ≤ K) : y + L.length + (C + 4) ≤ K := by
  rw [List.length_cons, List.length_cons, List.length_append, List.length_cons, List.length_singleton] at h
  omega
theorem ao_step (W : World) (hg : D2.Glo W) (M : Nat) (ih : AoIH W M) (p : Pay) (T : BT Pay) (ka : Option Addr) (kc : Nat) (ia : Option Addr) (ic : Nat) (v : Value) (ys : List UInt8) (w : World) (hM : fsize T ≤ M) (hf : fine p T) (hin : OIn W p T ka kc ia ic) (hb : Below W.heap.size W w) (h : BRow w W.heap.size v ys)
    (hl : ys.length + (objT p T).length + 1000000 ≤ 140737488355328) : Calls Tryd.prog 33 #[v, ov p ka kc ia (flen T) ic] w (AoR W.heap.size w (ys ++ objT p T)) := by
  rcases Nat.lt_or_ge 1048576 ys.length with hlong | hlong
  · refine (ao_stop p (flen T) ka kc ia ic v ys W.heap.size w h hb.size hlong (by omega)).mono ?_
    rintro e w' ⟨rfl, h1, h2⟩
    exact ⟨v, ys, rfl, h1, St.stop hlong, h2⟩
  by_cases h6 : p.kind = 6
  · have e0 : objT p T = 91 :: (forT T false [] true ++ [93]) := by unfold objT objV; rw [if_pos h6]
    rw [e0] at hl ⊢
    exact ao_arr W M ih p T ka kc ia ic v ys w h6 hM hf hin hb h hlong (len_arr _ _ 1000000 _ hl)
  by_cases h7 : p.kind = 7
  · have e0 : objT p T = 60 :: 60 :: (forT T true p.keys true ++ [62, 62]) := by unfold objT objV; rw [if_neg h6, if_pos h7]
    rw [e0] at hl ⊢
    exact ao_dict W M ih p T ka kc ia ic v ys w h7 hM hf hin hb h hlong (len_dict _ _ 1000000 _ hl)
  · have e0 : objT p T = atomT p := by unfold objT objV; rw [if_neg h6, if_neg h7]
    rw [e0]
    refine (ao_atom p (flen T) ka kc ia ic v ys W.heap.size w hf.1 h6 h7 h hb.size hlong (hg.below hb) ((Lib.tabBelow_of_tabIs hg.tab).on hb)).mono ?_
    rintro e w' ⟨v', rfl, h1, h2⟩
    exact ⟨v', _, rfl, h1, St.refl _, h2⟩
theorem ao_core (W : World) (hg : D2.Glo W) : ∀ M, AoIH W M
  | 0 => fun _ _ _ _ _ _ _ _ _ h => absurd h (Nat.not_lt_zero _)
  | M + 1 => fun p T ka kc ia ic v ys w hM hf hin hb h hl => ao_step W hg M (ao_core W hg M) p T ka kc ia ic v ys w (by omega) hf hin hb h hl
/- what Print answers -/
def prV (p : Pay) (T : BT Pay) : Value :=
  if decide (0 < goodV p T 0 0) = true then (if (objT p T).length ≤ 1048576 then .tuple #[.string ⟨(objT p T).toArray⟩, .int .i64 0] else .tuple #[.string ⟨#[]⟩, .int .i64 2]) else .tuple #[.string ⟨#[]⟩, .int .i64 50]
set_option maxRecDepth 8000 in
set_option maxHeartbeats 1000000 in
theorem oprint_any (p : Pay) (T : BT Pay) (ka : Option Addr) (kc : Nat) (ia : Option Addr) (ic : Nat) (w : World) (hin : OIn w p T ka kc ia ic) (hgl : D2.Glo w) :
    Calls Tryd.prog 27 #[ov p ka kc ia (flen T) ic] w fun e w' => e = .returned (prV p T) ∧ Below w.heap.size w w' := by
  have HB := hide ((Below.refl w.heap.size w).alloc (Nat.le_refl _) (.cells (obox p ka kc ia (flen T) ic) 39))
  have CG := hide (oGood_any p T ka kc ia ic _ (hin.below HB.out))
  have HS := hide (six_box w p ka kc ia (flen T) ic 39)
  have hz : w.heap.size < (w.alloc (.cells (obox p ka kc ia (flen T) ic) 39)).heap.size := by simp
  unfold prV
  cases hg : decide (0 < goodV p T 0 0)
  · rw [hg] at CG
    rw [if_neg (by simp)]
    clear hin hgl hg
    go_enter Tryd.func27, Tryd.ntmps27
    go_wp2_with fail
    refine CG.out.mono ?_
    rintro e w1 ⟨rfl, h1⟩
    have HB1 := hide (below_t5 HB.out h1)
    clear h1
    go_wp2_with fail
    go_ret2
    exact ⟨rfl, HB1.out⟩
  · rw [hg] at CG
    rw [if_pos rfl]
    obtain ⟨R, hR⟩ : ∃ R, (if (objT p T).length ≤ 1048576 then Value.tuple #[.string ⟨(objT p T).toArray⟩, .int .i64 0] else .tuple #[.string ⟨#[]⟩, .int .i64 2]) = R := ⟨_, rfl⟩
    rw [hR]
    have HRR := hide hR
    clear hR
    have hgf := goodV_fine hg
    have hlen := objT_len hgf.1
    have hlen2 : (objT p T).length + 1000000 ≤ 140737488355328 := by have := hgf.2; omega
    have CA := hide (fun x (hx : Below w.heap.size w x) => ao_core x (hgl.below hx) _ p T ka kc ia ic (.slice none 0 0) [] x (Nat.lt_succ_self _) hgf.1 (hin.below hx) (Below.refl _ _) (BRow.nil _ _) (by simpa using hlen2))
    clear hin hgl hg hgf hlen
    have HLL := hide hlen2
    clear hlen2
    go_enter Tryd.func27, Tryd.ntmps27
    go_wp2_with fail
    refine CG.out.mono ?_
    rintro e w1 ⟨rfl, h1⟩
    have HB1 := hide (below_t5 HB.out h1)
    obtain ⟨s0, s1, s2, s3, s4, s5⟩ := HS.out.below hz h1
    simp only [Nat.zero_add] at s1 s2 s3 s4 s5
    clear h1
    go_wp2_with fail
    refine (CA.out _ HB1.out).mono ?_
    rintro e w2 ⟨v', zs, rfl, hb, hst, hw⟩
    obtain ⟨a, cap, rfl⟩ := hb.shape
    have hcv := BRow.text hb
    have HW := hide (below_t5 HB1.out hw.below)
    simp only [List.nil_append] at hst
    have hzl := hst.le
    have hzm : (zs.length : Int) ≤ 140737488355328 := by have := HLL.out; omega
    by_cases hlong : 1048576 < zs.length
    · have hl2 : ¬ (objT p T).length ≤ 1048576 := by omega
      have hR := HRR.out
      rw [if_neg hl2] at hR
      subst hR
      have g : decide ((1048576 : Int) < (zs.length : Int)) = true := by simp; omega
      clear hb hw s0 s1 s2 s3 s4 s5 hst hzl hl2 hlong hzm HRR HLL CA
      go_wp2_with fail
      go_ret2
      exact ⟨rfl, HW.out⟩
    · obtain rfl : zs = objT p T := by
        rcases hst with h | h
        · exact h
        · exact absurd h.1 hlong
      have hR := HRR.out
      rw [if_pos (by omega)] at hR
      subst hR
      have g : decide ((1048576 : Int) < ((objT p T).length : Int)) = false := by simp; omega
      clear hb hw s0 s1 s2 s3 s4 s5 hst hzl hlong HRR HLL CA
      generalize (objT p T).length = N at hcv g hzm ⊢
      go_wp2_with fail
      go_ret2
      exact ⟨rfl, HW.out⟩
end Go.Proofs.YtlnkddmpcicejaaDoor
/-
  The law's own large: it answers a number, and turns nothing.
-/
namespace Go.Proofs.YtlnkddmpcicejaaDoor
open Go.RowKit Go.Deep

set_option maxHeartbeats 4000000 in
theorem large_step (M : Nat)
    (ih : ∀ (p : Pay) (T : BT Pay) (ka : Option Addr) (kc : Nat) (ia : Option Addr) (ic : Nat) (nest n : Int) (w : World), fsize T < M → OIn w p T ka kc ia ic →
      Calls Tryd.prog 18 #[ov p ka kc ia (flen T) ic, .int .i64 nest, .int .i64 n] w fun e w' => (∃ r : Int, e = .returned (.int .i64 r)) ∧ Below w.heap.size w w')
    (p : Pay) (T : BT Pay) (ka : Option Addr) (kc : Nat) (ia : Option Addr) (ic : Nat) (nest n : Int) (w : World) (hM : fsize T ≤ M) (hin : OIn w p T ka kc ia ic) :
      Calls Tryd.prog 18 #[ov p ka kc ia (flen T) ic, .int .i64 nest, .int .i64 n] w fun e w' => (∃ r : Int, e = .returned (.int .i64 r)) ∧ Below w.heap.size w w' := by
  have IH := hide ih
  have HI := hide hin
  have HM := hide hM
  have hl1 : (flen T : Int) ≤ 9223372036854775807 := by have h := hin.2.2.1; have h' := hin.2.2.2.1; omega
  have hl0 : (0 : Int) ≤ (flen T : Int) := by omega
  have hl3 : (p.keys.length : Int) ≤ 9223372036854775807 := by have h := hin.2.1.2.1; have h' := hin.2.1.2.2; omega
  have hS := six_box w p ka kc ia (flen T) ic 39
  have HS := hide hS
  clear ih hin hM hS
  go_enter Tryd.func18, Tryd.ntmps18
  go_wp2_with fail
  any_goals (go_ret; exact ⟨⟨_, rfl⟩, (Below.refl _ _).alloc (Nat.le_refl _) _⟩)
  have HB := hide ((Below.refl w.heap.size w).alloc (Nat.le_refl _) (.cells #[.int .i64 p.kind, .bool p.flag, .int .i64 p.num, .string p.text, .slice ka p.keys.length kc, .slice ia (flen T) ic] 39))
  have hsz : w.heap.size < (w.alloc (.cells #[.int .i64 p.kind, .bool p.flag, .int .i64 p.num, .string p.text, .slice ka p.keys.length kc, .slice ia (flen T) ic] 39)).heap.size := by simp
  rename_i hx1 hx2 _ _
  clear hx1 hx2
  go_loopw [7, 8] (fun vn vi wr => ∃ (m : Int) (i : Nat), vn = .int .i64 m ∧ vi = .int .i64 i ∧ Hid (i ≤ p.keys.length ∧ Below w.heap.size w wr ∧ Six wr w.heap.size 0 p ka kc ia (flen T) ic ∧ w.heap.size < wr.heap.size)) (fun _ vi _ => p.keys.length - (intOf vi).toNat)
  case atStart => exact ⟨_, 0, rfl, rfl, hide ⟨Nat.zero_le _, HB.out, HS.out, hsz⟩⟩
  case round =>
    clear HB HS hsz
    obtain ⟨m, i, rfl, rfl, HV⟩ := hrel
    obtain ⟨hi, hbel, h6, hsz⟩ := HV.out
    clear HV
    have HB := hide hbel
    have H6 := hide h6
    obtain ⟨s0, s1, s2, s3, s4, s5⟩ := h6
    simp only [Nat.zero_add] at s1 s2 s3 s4 s5
    have hi0 : (0 : Int) ≤ (i : Int) := by omega
    by_cases hlt : i < p.keys.length
    case pos =>
      obtain ⟨b, off, rfl, hb, hc⟩ := HI.out.2.1.1.get5 hlt
      have c1 := (hbel.cell (p := ⟨b, off + i, none⟩) hb).trans hc
      have hlt1 : (i : Int) < (p.keys.length : Int) := by omega
      generalize p.keys.getD i ByteArray.empty = x at c1
      have HLT := hide hlt
      clear hc hbel hlt hi
      go_wp2_with fail
      go_roundw
      case rel => exact ⟨_, i + 1, rfl, by go_num, hide ⟨HLT.out, HB.out, H6.out, hsz⟩⟩
      case measure => have := HLT.out; simp [intOf]; omega
    case neg =>
      clear hbel hi
      go_wp2_with fail
      clear s0 s1 s2 s3 s4 s5
      obtain ⟨b, off, hia, hrows⟩ := OIn.at_ HI.out
      have HR := hide hrows
      have HIA := hide hia
      clear hrows hia
      go_loopw [7, 9] (fun vn vi wr => ∃ (m : Int) (k : Nat) (U : BT Pay), vn = .int .i64 m ∧ vi = .int .i64 k ∧ Hid (flen U + k = flen T ∧ fsize U ≤ fsize T ∧ Rows w U b (off + k * 6) ∧ Below w.heap.size w wr ∧ Six wr w.heap.size 0 p ka kc ia (flen T) ic ∧ w.heap.size < wr.heap.size)) (fun _ vi _ => flen T - (intOf vi).toNat)
      case atStart => exact ⟨_, 0, T, rfl, rfl, hide ⟨by omega, Nat.le_refl _, by simpa using HR.out, HB.out, H6.out, hsz⟩⟩
      case round =>
        clear HB H6 hsz HR
        obtain ⟨m, k, U, rfl, rfl, HV⟩ := hrel
        obtain ⟨hk, hu, hrow, hbel, h6, hsz⟩ := HV.out
        clear HV
        have HB := hide hbel
        have H6 := hide h6
        obtain ⟨s0, s1, s2, s3, s4, s5⟩ := h6
        simp only [Nat.zero_add] at s1 s2 s3 s4 s5
        have hm : 0 ≤ m ∨ m < 0 := by omega
        cases U with
        | nil =>
          have hk' : (flen T : Int) ≤ (k : Int) := by simp [flen] at hk; omega
          clear hk hrow hbel hm
          go_wp2_with fail
          go_ret
          exact ⟨⟨_, rfl⟩, HB.out⟩
        | node b0 o0 q TT N =>
          obtain ⟨⟨ka', kc', ia', ic', g6, gin⟩, grest⟩ := rows_node.1 hrow
          obtain rfl | ⟨rfl, hbz⟩ := HIA.out
          · simp [flen] at hk
          have hlt : (k : Int) < (flen T : Int) := by simp [flen] at hk; omega
          have hk0 : (0 : Int) ≤ (k : Int) := by omega
          have hst : fsize TT < M := by have := HM.out; simp [fsize] at hu; omega
          have CI := fun nest => IH.out q TT ka' kc' ia' ic' nest m wr hst (gin.below hbel)
          obtain ⟨c0, c1, c2, c3, c4, c5⟩ := g6.below hbz hbel
          have CI := hide CI
          have HK := hide (show flen N + (k + 1) = flen T ∧ fsize N ≤ fsize T by simp [flen, fsize] at hk hu; omega)
          have HRR := hide grest
          clear hk hu hrow hbel g6 gin grest
          rcases hm with hm | hm
          · go_wp2_with (go_at_call 18; refine (CI.out _).mono ?_; rintro e wy ⟨⟨r, rfl⟩, hy⟩)
            go_roundw
            case rel => exact ⟨r, k + 1, N, rfl, by go_num, hide ⟨HK.out.1, HK.out.2, by have := HRR.out; rw [show off + (k + 1) * 6 = off + k * 6 + 6 by omega]; exact this, below_t5 HB.out hy, H6.out.below hsz hy, Nat.lt_of_lt_of_le hsz hy.size⟩⟩
            case measure => simp [intOf]; omega
          · go_wp2_with fail
            go_ret
            exact ⟨⟨_, rfl⟩, HB.out⟩
theorem large_core : ∀ (M : Nat) (p : Pay) (T : BT Pay) (ka : Option Addr) (kc : Nat) (ia : Option Addr) (ic : Nat) (nest n : Int) (w : World), fsize T < M → OIn w p T ka kc ia ic →
      Calls Tryd.prog 18 #[ov p ka kc ia (flen T) ic, .int .i64 nest, .int .i64 n] w fun e w' => (∃ r : Int, e = .returned (.int .i64 r)) ∧ Below w.heap.size w w'
  | 0 => fun _ _ _ _ _ _ _ _ _ h => absurd h (Nat.not_lt_zero _)
  | M + 1 => fun p T ka kc ia ic nest n w hM hin => large_step M (large_core M) p T ka kc ia ic nest n w (by omega) hin
theorem large_any (p : Pay) (T : BT Pay) (ka : Option Addr) (kc : Nat) (ia : Option Addr) (ic : Nat) (w : World) (hin : OIn w p T ka kc ia ic) :
    Calls Tryd.prog 11 #[ov p ka kc ia (flen T) ic] w fun e w' => (∃ r : Bool, e = .returned (.bool r)) ∧ Below w.heap.size w w' := by
  have C := hide (fun nest n w' h => large_core (fsize T + 1) p T ka kc ia ic nest n w' (Nat.lt_succ_self _) (OIn.below (w := w) (w' := w') h hin))
  clear hin
  go_enter Tryd.func11, Tryd.ntmps11
  go_wp2_with (go_at_call 18; refine (C.out _ _ _ ((Below.refl _ _).alloc (Nat.le_refl _) _)).mono ?_; rintro e wy ⟨⟨r, rfl⟩, hy⟩)
  all_goals
    go_ret
    exact ⟨⟨_, rfl⟩, below_t5 ((Below.refl _ _).alloc (Nat.le_refl _) _) hy⟩
end Go.Proofs.YtlnkddmpcicejaaDoor
/-
  The law ObjGets, walked: of any object that lies, any key.
-/
namespace Go.Proofs.YtlnkddmpcicejaaDoor
open Go.RowKit Go.Deep

theorem eqS_refl (a : ByteArray) : eqS a a = true := by unfold eqS; simp
theorem keysEq_refl : ∀ l : List ByteArray, keysEq l l = true
  | [] => rfl
  | a :: l => by rw [keysEq, eqS_refl, keysEq_refl l]; rfl
theorem payEq_refl (p : Pay) : payEq p p = true := by unfold payEq; rw [eqS_refl, keysEq_refl]; simp
theorem sameF_refl : ∀ T : BT Pay, sameF T T = true
  | .nil => rfl
  | .node _ _ p T N => by rw [sameF, payEq_refl, sameF_refl T, sameF_refl N]; rfl
theorem sameV_refl (p : Pay) (T : BT Pay) : sameV p T p T = true := by unfold sameV; rw [payEq_refl, sameF_refl]; rfl
theorem Got.form {w : World} {R : Option (Pay × BT Pay)} {e : Ending} (h : Got w R e) : ∃ ka kc ia ic, e = .returned (.tuple #[ov (R.getD (zpay, .nil)).1 ka kc ia (flen (R.getD (zpay, .nil)).2) ic, .bool R.isSome]) ∧ OIn w (R.getD (zpay, .nil)).1 (R.getD (zpay, .nil)).2 ka kc ia ic := by
  cases R with
  | none => exact ⟨none, 0, none, 0, h, zin w⟩
  | some r =>
    obtain ⟨q, U⟩ := r
    exact h
end Go.Proofs.YtlnkddmpcicejaaDoor
/-
  An object that came in: it lies as a tree.
-/
namespace Go.Proofs.YtlnkddmpcicejaaDoor
open Go.ChangeShapes Go.WideShapes Go.RowKit Go.Deep

theorem cells_int : Tryd.prog.cellsOf 3 = 1 := by kernel_rfl
theorem cells_bool : Tryd.prog.cellsOf 4 = 1 := by kernel_rfl
theorem cells_str : Tryd.prog.cellsOf 9 = 1 := by kernel_rfl
theorem cells_strs : Tryd.prog.cellsOf 36 = 1 := by kernel_rfl
theorem cells_objs : Tryd.prog.cellsOf 37 = 1 := by kernel_rfl
theorem cells_obj : Tryd.prog.cellsOf 39 = 6 := by kernel_rfl
theorem bytes_str : Tryd.prog.bytesOf 9 = 16 := by kernel_rfl
theorem bytes_obj : Tryd.prog.bytesOf 39 = 88 := by kernel_rfl
def sixL (p : Pay) (ka : Option Addr) (kc : Nat) (ia : Option Addr) (n ic : Nat) : List Value := [.int .i64 p.kind, .bool p.flag, .int .i64 p.num, .string p.text, .slice ka p.keys.length kc, .slice ia n ic]
theorem len6 {α : Type} {l : List α} (h : l.length = 6) : ∃ a b c d e f, l = [a, b, c, d, e, f] := by
  match l, h with
  | [a, b, c, d, e, f], _ => exact ⟨a, b, c, d, e, f, rfl⟩
theorem strs_at5 {w : World} {a : Addr} {ss : List ByteArray} (h : ∀ i, i < ss.length → w.cell? (a.add i) = some (.string (ss.getD i ByteArray.empty))) (n : Nat) (hn : n ≤ ss.length) : Strs w (some a) (ss.take n) := by
  rcases Nat.eq_zero_or_pos n with h0 | h0
  · subst h0; exact Or.inl (by simp)
  · obtain ⟨b, off, spot⟩ := a
    have hspot : spot = none := by simpa [Addr.add] using World.cell?_spot (h 0 (by omega))
    subst hspot
    have h' : ∀ i, i < ss.length → w.cell? ⟨b, off + i, none⟩ = some (.string (ss.getD i ByteArray.empty)) := fun i hi => by rw [← Go.WideShapes.add_plain]; exact h i hi
    refine Or.inr ⟨b, off, rfl, ?_, fun i hi => ?_⟩
    · have := h' 0 (by omega)
      by_cases hb : b < w.heap.size
      · exact hb
      · unfold World.cell? at this
        rw [Array.getElem?_eq_none (by show w.heap.size ≤ b; omega)] at this
        simp at this
    · rw [List.length_take] at hi
      rw [h' i (by omega), List.getD_eq_getElem?_getD, List.getD_eq_getElem?_getD, List.getElem?_take, if_pos (by omega)]
section
variable {H : Type} {enc : TypeId × Value → H} {W : World} {base : Nat} {sp : Nat → Bool} {held : Bool}
def OpenAt (enc : TypeId × Value → H) (W : World) (base : Nat) (sp : Nat → Bool) (held : Bool) (n : Nat) : Prop :=
  ∀ (cs : List Value) (x : DataW H × List MemPlace), DataW.trod enc Tryd.prog W base sp held n 39 cs = some x → (∀ k ∈ x.1.weights Tryd.prog 39, k ≤ reachBytes) →
    ∃ p T ka kc ia ic, cs = sixL p ka kc ia (flen T) ic ∧ OIn W p T ka kc ia ic
theorem open_rows (n : Nat) (IH : OpenAt enc W base sp held n) : ∀ (es : List (DataW H × List MemPlace)) (b off : Nat), (∀ i, i < es.length → (W.cells? base ⟨b, off + i * 6, none⟩ 6).bind (DataW.trod enc Tryd.prog W base sp held n 39) = es[i]?) →
    (∀ k ∈ DataW.weightsAll Tryd.prog 39 (es.map (·.1)), k ≤ reachBytes) → ∃ T, flen T = es.length ∧ Rows W T b off
  | [], _, _, _, _ => ⟨.nil, rfl, trivial⟩
  | e :: es, b, off, h, hw => by
    have h0 := h 0 (by simp)
    simp only [Nat.zero_mul, Nat.add_zero, List.getElem?_cons_zero] at h0
    obtain ⟨cs, hc, ht⟩ := Option.bind_eq_some_iff.1 h0
    simp only [List.map_cons, DataW.weightsAll] at hw
    obtain ⟨p, T, ka, kc, ia, ic, rfl, hin⟩ := IH cs e ht (fun k hk => hw k (List.mem_append_left _ hk))
    obtain ⟨N, hN, hR⟩ := open_rows n IH es b (off + 6) (fun i hi => by
      have := h (i + 1) (by simp; omega)
      rw [show off + (i + 1) * 6 = off + 6 + i * 6 by omega] at this
      simpa using this) (fun k hk => hw k (List.mem_append_right _ hk))
    obtain ⟨_, _, hcell⟩ := World.cells?_some hc
    have g : ∀ j, j < 6 → W.cell? ⟨b, off + j, none⟩ = (sixL p ka kc ia (flen T) ic)[j]? := fun j hj => by rw [← Go.WideShapes.add_plain]; exact hcell j hj
    exact ⟨.node 0 0 p T N, by simp [flen, hN], rows_node.2 ⟨⟨ka, kc, ia, ic, ⟨g 0 (by omega), g 1 (by omega), g 2 (by omega), g 3 (by omega), g 4 (by omega), g 5 (by omega)⟩, hin⟩, hR⟩⟩
set_option maxRecDepth 8000 in
theorem open_core : ∀ n, OpenAt enc W base sp held n
  | 0 => fun cs x h _ => by simp [DataW.trod] at h
  | n + 1 => fun cs x h hw => by
    obtain ⟨xs, m, hm, rfl, hlen, hxl, hf⟩ := DataW.trod_struct Tryd.underlying39 h
    obtain rfl : m = n := by omega
    rw [cells_obj] at hlen
    obtain ⟨a0, a1, a2, a3, a4, a5, rfl⟩ := len6 hlen
    obtain ⟨x0, x1, x2, x3, x4, x5, rfl⟩ := len6 (show xs.length = 6 from hxl)
    have g0 := hf 0 _ rfl
    have g1 := hf 1 _ rfl
    have g2 := hf 2 _ rfl
    have g3 := hf 3 _ rfl
    have g4 := hf 4 _ rfl
    have g5 := hf 5 _ rfl
    simp [cells_int, cells_bool, cells_str, cells_strs, cells_objs] at g0 g1 g2 g3 g4 g5
    obtain ⟨kd, e0, _, w0⟩ := DataW.trod_int Tryd.underlying3 g0
    obtain ⟨fl, e1, _⟩ := DataW.trod_bool Tryd.underlying4 g1
    obtain ⟨nm, e2, _, w2⟩ := DataW.trod_int Tryd.underlying3 g2
    obtain ⟨tx, e3, _, w3⟩ := DataW.trod_string Tryd.underlying9 g3
    have hw : ∀ k ∈ DataW.weights Tryd.prog 36 x4.1 ++ DataW.weights Tryd.prog 37 x5.1, k ≤ reachBytes := fun k hk => hw k (by
      simp only [List.map_cons, List.map_nil, DataW.weights, Tryd.underlying39, DataW.weightsEach, List.mem_append] at hk ⊢
      rcases hk with hk | hk
      · right; right; right; right; left; exact hk
      · right; right; right; right; right; left; exact hk)
    have hk4 : ∃ ka kc keys, a4 = .slice ka (keys : List ByteArray).length kc ∧ Strs W ka keys ∧ (keys.length ≤ kc ∧ keys.length ≤ 8796093022208) ∧ kc ≤ 9223372036854775807 ∧ ∀ s ∈ keys, s.size ≤ 9223372036854775807 := by
      rcases open_strings Tryd.underlying36 Tryd.underlying9 cells_str g4 with ⟨hcs, _⟩ | ⟨a, len, cap, ss, hcs, _, hl, hmx, hsl, hx, hc, hz⟩
      · simp at hcs
        exact ⟨none, 0, [], hcs, Or.inl rfl, by simp, by omega, by simp⟩
      · simp at hcs
        have hle : len ≤ ss.length := by rw [hsl]; split <;> omega
        have hlt : (ss.take len).length = len := by rw [List.length_take]; omega
        have hwt := hw (((strs (ss.take len) : List (DataW H)).length + (strs (ss.drop len) : List (DataW H)).length) * 16) (List.mem_append_left _ (by rw [hx]; simp only [DataW.weights, Tryd.underlying36, bytes_str]; exact List.mem_cons_self))
        refine ⟨some a, cap, ss.take len, by rw [hlt]; exact hcs, strs_at5 hc len hle, ⟨by rw [hlt]; exact hl, ?_⟩, by unfold maxLen at hmx; exact hmx, fun s hs => by have := hz s (List.mem_of_mem_take hs); unfold maxLen at this; exact this⟩
        simp only [strs, List.length_map, List.length_take, reachBytes] at hwt
        rw [hlt]
        omega
    have hk5 : ∃ ia ic T, a5 = .slice ia (flen T) ic ∧ (flen T ≤ ic ∧ flen T ≤ 1599289640401) ∧ ic ≤ 9223372036854775807 ∧ (flen T = 0 ∨ ∃ b' off', ia = some ⟨b', off', none⟩ ∧ b' < W.heap.size ∧ Rows W T b' off') := by
      rcases DataW.trod_slice Tryd.underlying37 g5 with ⟨hcs, _⟩ | ⟨a, len, cap, elems, rest, n', hn', hcs, hx, _, hl, hmx, hel, hei, _, _⟩
      · simp at hcs
        exact ⟨none, 0, .nil, hcs, by simp [flen], by omega, Or.inl rfl⟩
      · simp at hcs
        have hwt := hw ((elems.length + rest.length) * 88) (List.mem_append_right _ (by rw [hx]; simp only [DataW.weights, Tryd.underlying37, bytes_obj, List.length_map]; exact List.mem_cons_self))
        have hwa : ∀ k ∈ DataW.weightsAll Tryd.prog 39 (elems.map (·.1)), k ≤ reachBytes := fun k hk => hw k (List.mem_append_right _ (by rw [hx]; simp only [DataW.weights, Tryd.underlying37]; exact List.mem_cons_of_mem _ (List.mem_append_left _ hk)))
        rcases Nat.eq_zero_or_pos len with h0 | h0
        · subst h0
          exact ⟨some a, cap, .nil, hcs, by simp [flen], by unfold maxLen at hmx; exact hmx, Or.inl rfl⟩
        · obtain ⟨b, off, spot⟩ := a
          have h00 := hei 0 h0
          rw [List.getElem?_eq_getElem (by omega), cells_obj] at h00
          obtain ⟨cs0, hc0, _⟩ := Option.bind_eq_some_iff.1 h00
          obtain ⟨_, hcl, hcell⟩ := World.cells?_some hc0
          obtain ⟨c0, c1, c2, c3, c4, c5, rfl⟩ := len6 hcl
          have hc00 := hcell 0 (by omega)
          simp only [List.getElem?_cons_zero] at hc00
          have hspot : spot = none := by simpa [Addr.add] using World.cell?_spot hc00
          subst hspot
          have hb : b < W.heap.size := by
            have := World.cells?_block hc0 (by omega)
            simpa [Addr.add] using this
          obtain ⟨T, hT, hR⟩ := open_rows n' (by
            have : n' < m := by omega
            exact open_core n') elems b off (fun i hi => by
              have := hei i (by omega)
              rw [cells_obj, Go.WideShapes.add_plain] at this
              exact this) hwa
          refine ⟨some ⟨b, off, none⟩, cap, T, by rw [hT, hel]; exact hcs, ⟨by rw [hT, hel]; exact hl, ?_⟩, by unfold maxLen at hmx; exact hmx, Or.inr ⟨b, off, rfl, hb, hR⟩⟩
          simp only [reachBytes] at hwt
          rw [hT]
          omega
    obtain ⟨ka, kc, keys, rfl, hS, hk1, hk2, hk3⟩ := hk4
    obtain ⟨ia, ic, T, rfl, hi1, hi2, hi3⟩ := hk5
    simp at e0 e1 e2 e3
    subst e0 e1 e2 e3
    exact ⟨⟨kd, fl, nm, tx, keys⟩, T, ka, kc, ia, ic, rfl, ⟨bounds_i64 w0, bounds_i64 w2, by unfold maxLen at w3; exact w3, hk3⟩, ⟨hS, hk1, hk2⟩, hi1, hi2, hi3⟩
variable {r : Reach} {b0 : Nat} {v : Value} {d : DataW H} {pl : List MemPlace}
set_option maxRecDepth 8000 in
theorem open_obj (hv : Value.okWide Tryd.prog W r b0 39 v) (h : DataW.Trod enc Tryd.prog W base sp held 39 v d pl) (hw : ∀ k ∈ d.weights Tryd.prog 39, k ≤ reachBytes) :
    ∃ p T ka kc ia ic, v = ov p ka kc ia (flen T) ic ∧ OIn W p T ka kc ia ic := by
  simp only [Value.okWide, Tryd.underlying39] at hv
  obtain ⟨cs, rfl, _, _⟩ := hv
  obtain ⟨fuel, hf⟩ := h
  obtain ⟨p, T, ka, kc, ia, ic, hcs, hin⟩ := open_core fuel _ _ hf hw
  refine ⟨p, T, ka, kc, ia, ic, ?_, hin⟩
  have : cs.toList = sixL p ka kc ia (flen T) ic := hcs
  cases cs
  simp only at this
  subst this
  rfl
theorem wts0 {P : Program} {t : TypeId} {ts : List TypeId} {d : DataW H} {r : List (DataW H)} (h : (DataW.weightsEach P (t :: ts) (d :: r)).all (· ≤ reachBytes) = true) : ∀ k ∈ d.weights P t, k ≤ reachBytes := fun k hk => by
  simpa using List.all_eq_true.1 h k (by simp only [DataW.weightsEach]; exact List.mem_append_left _ hk)
theorem wts1 {P : Program} {t u : TypeId} {ts : List TypeId} {c d : DataW H} {r : List (DataW H)} (h : (DataW.weightsEach P (t :: u :: ts) (c :: d :: r)).all (· ≤ reachBytes) = true) : ∀ k ∈ d.weights P u, k ≤ reachBytes := fun k hk => by
  simpa using List.all_eq_true.1 h k (by simp only [DataW.weightsEach]; exact List.mem_append_right _ (List.mem_append_left _ hk))
end
end Go.Proofs.YtlnkddmpcicejaaDoor
