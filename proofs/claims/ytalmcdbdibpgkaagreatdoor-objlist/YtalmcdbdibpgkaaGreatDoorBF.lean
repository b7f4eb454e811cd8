/-
  Joined: O5Prt, O5Ao, O5Ad, O5Aob.
-/
import Derived.Test.YtalmcdbdibpgkaaGreatDoorBH
import Derived.Test.YtalmcdbdibpgkaaGreatDoorBB
import Derived.Test.YtalmcdbdibpgkaaGreatDoorBE
import Derived.Test.YtalmcdbdibpgkaaGreatDoorBC
/-
  The text of an object, in plain words; the landed way, which stops when a text is too long.
-/
namespace Go.Proofs.YtalmcdbdibpgkaaGreatDoor
open Go.RowKit Go.Deep Go.Lib

def atomT (p : Pay) : List UInt8 :=
  if p.kind = 1 then boolT p.flag else if p.kind = 2 then intT p.num else if p.kind = 3 then D2.textL p.num else if p.kind = 4 then nameT p.text.data.toList
  else if p.kind = 5 then strT p.text.data.toList else if p.kind = 8 then intT p.num ++ [32, 48, 32, 82] else [110, 117, 108, 108]
def objV (p : Pay) (k : Bool → List ByteArray → List UInt8) : List UInt8 :=
  if p.kind = 6 then 91 :: (k false [] ++ [93]) else if p.kind = 7 then 60 :: 60 :: (k true p.keys ++ [62, 62]) else atomT p
def forT : BT Pay → Bool → List ByteArray → Bool → List UInt8
  | .nil, _, _, _ => []
  | .node _ _ p T N, d, ks, first => (if first then [] else [32]) ++ ((if d then nameT (ks.headD ByteArray.empty).data.toList ++ [32] else []) ++ (objV p (fun d ks => forT T d ks true) ++ forT N d ks.tail false))
def objT (p : Pay) (T : BT Pay) : List UInt8 := objV p fun d ks => forT T d ks true
theorem forT_node {b o : Nat} {p : Pay} {T N : BT Pay} {d f : Bool} {ks : List ByteArray} : forT (.node b o p T N) d ks f = (if f then [] else [32]) ++ ((if d then nameT (ks.headD ByteArray.empty).data.toList ++ [32] else []) ++ (objT p T ++ forT N d ks.tail false)) := rfl

/- all of them are good, but for their number and depth -/
def fineF : BT Pay → Prop
  | .nil => True
  | .node _ _ p T N => (flatV p (flen T) = true ∧ fineF T) ∧ fineF N
def fine (p : Pay) (T : BT Pay) : Prop := flatV p (flen T) = true ∧ fineF T
theorem fineF_node {b o : Nat} {p : Pay} {T N : BT Pay} : fineF (.node b o p T N) ↔ fine p T ∧ fineF N := Iff.rfl
theorem goodF_fine : ∀ (T : BT Pay) (nest n : Int), 0 ≤ n → 0 ≤ goodF T nest n → fineF T ∧ goodF T nest n = n + fsize T
  | .nil, _, n, _, h => ⟨trivial, by simp [goodF, fsize]⟩
  | .node _ _ p T N, nest, n, h0, h => by
    rw [goodF_node] at h ⊢
    by_cases hv : goodV p T nest n < 0
    · rw [if_pos hv] at h; omega
    rw [if_neg hv] at h ⊢
    have h1 : fine p T ∧ goodV p T nest n = n + 1 + fsize T := by
      unfold goodV gV at hv ⊢
      split at hv
      · omega
      · rename_i hc
        rw [if_neg hc]
        have hf : flatV p (flen T) = true := by
          cases hh : flatV p (flen T) with
          | true => rfl
          | false => exact absurd (Or.inr hh) hc
        split at hv
        · rename_i hcc
          rw [if_pos hcc]
          split at hv
          · omega
          · rename_i hd
            rw [if_neg hd]
            have := goodF_fine T (nest + 1) (n + 1) (by omega) (by omega)
            exact ⟨⟨hf, this.1⟩, this.2⟩
        · rename_i hcc
          rw [if_neg hcc]
          have := goodF_fine T nest (n + 1) (by omega) (by omega)
          exact ⟨⟨hf, this.1⟩, this.2⟩
    have h2 := goodF_fine N nest _ (by omega) h
    refine ⟨fineF_node.2 ⟨h1.1, h2.1⟩, ?_⟩
    rw [h2.2, h1.2]
    simp only [fsize]
    omega
theorem goodV_fine {p : Pay} {T : BT Pay} (h : decide (0 < goodV p T 0 0) = true) : fine p T ∧ fsize T < 65536 := by
  have h := of_decide_eq_true h
  have hle := goodV_le p T 0 0 (by omega) (by omega)
  have h1 : 0 ≤ goodF (.node 0 0 p T .nil) 0 0 := by
    rw [goodF_node, if_neg (by omega)]
    simp only [goodF]
    omega
  have h2 := goodF_fine _ 0 0 (by omega) h1
  have h3 := h2.2
  rw [goodF_node, if_neg (by omega)] at h3
  simp only [goodF, fsize] at h3
  exact ⟨(fineF_node.1 h2.1).1, by omega⟩

/- how long texts are -/
theorem intT_len (x : Int) (h : -1099511627776 ≤ x ∧ x ≤ 1099511627776) : (intT x).length ≤ 20 := by
  have hl : (decDigits x.natAbs).length ≤ 19 := by rw [← D2.decF_eq 18 x.natAbs (by omega)]; exact D2.decF_len 18 _
  unfold intT
  split <;> simp <;> omega
theorem realT_len (x : Int) (h : -1099511627776 ≤ x ∧ x ≤ 1099511627776) : (D2.textL x).length ≤ 26 := by
  have h1 := D2.dec_len (x.natAbs / 65536) (by omega)
  have h2 : (D2.frac (x.natAbs % 65536)).length ≤ 17 := by
    unfold D2.frac
    split
    · simp
    · have := D2.fdig_len 16 (x.natAbs % 65536); simp only [List.length_cons]; omega
  unfold D2.textL
  simp only [List.length_append]
  split <;> simp <;> omega
theorem nameT_len (l : List UInt8) : (nameT l).length ≤ 3 * l.length + 1 := by
  unfold nameT
  have := flat_len l
  simp only [List.length_cons]
  omega
theorem strT_len (l : List UInt8) : (strT l).length ≤ 2 * l.length + 2 := by
  have h1 := hex_len l
  have h2 := sch_len l
  unfold strT
  split <;> simp only [List.length_cons, List.length_append, List.length_nil] <;> omega
theorem nameB_len {l : List UInt8} (h : nameB l = true) : l.length ≤ 127 := by
  unfold nameB at h
  simp only [Bool.and_eq_true, decide_eq_true_eq] at h
  exact h.1.2
theorem flat_int {p : Pay} {n : Nat} (h : flatV p n = true) (hk : p.kind = 2) : -1099511627776 ≤ p.num ∧ p.num ≤ 1099511627776 := by
  unfold flatV at h
  rw [if_pos hk] at h
  simp only [Bool.and_eq_true, decide_eq_true_eq] at h
  exact h.2
theorem flat_real {p : Pay} {n : Nat} (h : flatV p n = true) (hk : p.kind = 3) : -1099511627776 ≤ p.num ∧ p.num ≤ 1099511627776 := by
  unfold flatV at h
  rw [if_neg (by omega), if_pos hk] at h
  simp only [Bool.and_eq_true, decide_eq_true_eq] at h
  exact h.2.1
theorem flat_name {p : Pay} {n : Nat} (h : flatV p n = true) (hk : p.kind = 4) : p.text.size ≤ 127 := by
  unfold flatV at h
  rw [if_neg (by omega), if_neg (by omega), if_pos hk] at h
  simp only [Bool.and_eq_true] at h
  rw [Lib.size_eq]
  exact nameB_len h.2
theorem flat_str {p : Pay} {n : Nat} (h : flatV p n = true) (hk : p.kind = 5) : p.text.size ≤ 65536 := by
  unfold flatV at h
  rw [if_neg (by omega), if_neg (by omega), if_neg (by omega), if_pos hk] at h
  simp only [Bool.and_eq_true, decide_eq_true_eq] at h
  exact h.2
theorem flat_ref {p : Pay} {n : Nat} (h : flatV p n = true) (hk : p.kind = 8) : 1 ≤ p.num ∧ p.num ≤ 4096 := by
  unfold flatV at h
  rw [if_neg (by omega), if_neg (by omega), if_neg (by omega), if_neg (by omega), if_neg (by omega), if_pos hk] at h
  simp only [Bool.and_eq_true, decide_eq_true_eq] at h
  exact h.2
theorem keysB_len : ∀ (ks : List ByteArray) (seen : List (List UInt8)), keysB seen ks = true → ∀ s ∈ ks, s.size ≤ 127
  | [], _, _, _, hs => by cases hs
  | k :: ks, seen, h, s, hs => by
    unfold keysB at h
    simp only [Bool.and_eq_true] at h
    rcases List.mem_cons.1 hs with rfl | hs
    · rw [Lib.size_eq]; exact nameB_len h.1.1
    · exact keysB_len ks _ h.2 s hs
theorem flat_dict {p : Pay} {n : Nat} (h : flatV p n = true) (hk : p.kind = 7) : p.keys.length = n ∧ ∀ s ∈ p.keys, s.size ≤ 127 := by
  unfold flatV at h
  rw [if_neg (by omega), if_neg (by omega), if_neg (by omega), if_neg (by omega), if_pos hk] at h
  simp only [Bool.and_eq_true, decide_eq_true_eq] at h
  exact ⟨h.2.1, keysB_len _ _ h.2.2⟩
theorem flat_kind {p : Pay} {n : Nat} (h : flatV p n = true) : p.kind = 0 ∨ p.kind = 1 ∨ p.kind = 2 ∨ p.kind = 3 ∨ p.kind = 4 ∨ p.kind = 5 ∨ p.kind = 6 ∨ p.kind = 7 ∨ p.kind = 8 := by
  unfold flatV at h
  simp only [Bool.and_eq_true] at h
  have h := h.2
  by_cases h2 : p.kind = 2; · omega
  by_cases h3 : p.kind = 3; · omega
  by_cases h4 : p.kind = 4; · omega
  by_cases h5 : p.kind = 5; · omega
  by_cases h7 : p.kind = 7; · omega
  by_cases h8 : p.kind = 8; · omega
  rw [if_neg h2, if_neg h3, if_neg h4, if_neg h5, if_neg h7, if_neg h8] at h
  simp only [Bool.or_eq_true, beq_iff_eq] at h
  omega
theorem atomT_len {p : Pay} {n : Nat} (h : flatV p n = true) : (atomT p).length ≤ 131074 := by
  unfold atomT
  split
  · unfold boolT; split <;> simp
  split
  · rename_i hk; have := intT_len _ (flat_int h hk); omega
  split
  · rename_i hk; have := realT_len _ (flat_real h hk); omega
  split
  · rename_i hk
    have h1 := nameT_len p.text.data.toList
    have h2 := flat_name h hk
    rw [Lib.size_eq] at h2
    omega
  split
  · rename_i hk
    have h1 := strT_len p.text.data.toList
    have h2 := flat_str h hk
    rw [Lib.size_eq] at h2
    omega
  split
  · rename_i hk
    have h2 := flat_ref h hk
    have := intT_len p.num (by omega)
    simp only [List.length_append, List.length_cons, List.length_nil]
    omega
  · simp
theorem forT_len : ∀ (T : BT Pay) (d f : Bool) (ks : List ByteArray), fineF T → (d = true → ∀ s ∈ ks, s.size ≤ 127) → (forT T d ks f).length ≤ 132000 * fsize T
  | .nil, _, _, _, _, _ => by simp [forT]
  | .node _ _ p T N, d, f, ks, h, hk => by
    obtain ⟨⟨hf, hT⟩, hN⟩ := h
    rw [forT_node]
    have h1 := forT_len N d false ks.tail hN (fun hd s hs => hk hd s (List.mem_of_mem_tail hs))
    have h2 : (objT p T).length ≤ 131074 + 132000 * fsize T := by
      unfold objT objV
      split
      · have := forT_len T false true [] hT (fun h => by cases h)
        simp only [List.length_cons, List.length_append, List.length_nil]
        omega
      split
      · rename_i hk7
        have := forT_len T true true p.keys hT (fun _ => (flat_dict hf hk7).2)
        simp only [List.length_cons, List.length_append, List.length_nil]
        omega
      · have := atomT_len hf
        omega
    have h3 : (if f then ([] : List UInt8) else [32]).length ≤ 1 := by split <;> simp
    have h4 : (if d then nameT (ks.headD ByteArray.empty).data.toList ++ [32] else ([] : List UInt8)).length ≤ 383 := by
      split
      · rename_i hd
        have h5 := nameT_len (ks.headD ByteArray.empty).data.toList
        have h6 : (ks.headD ByteArray.empty).size ≤ 127 := by
          cases ks with
          | nil => simp
          | cons k ks => exact hk hd k (by simp)
        rw [Lib.size_eq] at h6
        simp only [List.length_append, List.length_cons, List.length_nil]
        omega
      · simp
    simp only [List.length_append, fsize] at *
    omega
theorem objT_len {p : Pay} {T : BT Pay} (h : fine p T) : (objT p T).length ≤ 132000 * (fsize T + 1) := by
  have h1 := forT_len (.node 0 0 p T .nil) false true [] (fineF_node.2 ⟨h, trivial⟩) (fun h => by cases h)
  rw [forT_node] at h1
  simp only [forT, List.append_nil, fsize, if_true, List.nil_append] at h1
  simpa using h1

/- zs is F, or both are too long -/
def St (F zs : List UInt8) : Prop := zs = F ∨ 1048576 < zs.length ∧ zs.length ≤ F.length
theorem St.refl (F : List UInt8) : St F F := Or.inl rfl
theorem St.le {F zs : List UInt8} (h : St F zs) : zs.length ≤ F.length := by
  rcases h with rfl | h
  · exact Nat.le_refl _
  · exact h.2
theorem St.app {F zs : List UInt8} (h : St F zs) (x : List UInt8) : St (F ++ x) (zs ++ x) := by
  rcases h with rfl | h
  · exact Or.inl rfl
  · exact Or.inr ⟨by simp only [List.length_append]; omega, by simp only [List.length_append]; omega⟩
theorem St.trans {F zs t us : List UInt8} (h : St F zs) (k : St (zs ++ t) us) : St (F ++ t) us := by
  rcases h with rfl | h
  · exact k
  · have := k.le
    refine Or.inr ⟨?_, by simp only [List.length_append] at *; omega⟩
    rcases k with rfl | k
    · simp only [List.length_append]; omega
    · exact k.1
theorem St.stop {ys t : List UInt8} (h : 1048576 < ys.length) : St (ys ++ t) ys := Or.inr ⟨h, by simp⟩
end Go.Proofs.YtalmcdbdibpgkaaGreatDoor
/-
  What the landed appendObject answers.
-/
namespace Go.Proofs.YtalmcdbdibpgkaaGreatDoor
open Go.RowKit Go.Deep

def AoR (B : Nat) (w : World) (F : List UInt8) (e : Ending) (w' : World) : Prop := ∃ v' zs, e = .returned v' ∧ BRow w' B v' zs ∧ St F zs ∧ KB B w w'
def AoIH (W : World) (M : Nat) : Prop := ∀ (p : Pay) (T : BT Pay) (ka : Option Addr) (kc : Nat) (ia : Option Addr) (ic : Nat) (v : Value) (ys : List UInt8) (w : World), fsize T < M → fine p T → OIn W p T ka kc ia ic → Below W.heap.size W w → BRow w W.heap.size v ys →
  ys.length + (objT p T).length + 1000000 ≤ 140737488355328 → Calls Tryz.prog 21 #[v, ov p ka kc ia (flen T) ic] w (AoR W.heap.size w (ys ++ objT p T))
theorem KB.alloc {B : Nat} (w : World) (blk : Obj) (h : B ≤ w.heap.size) : KB B w (w.alloc blk) := ⟨(Below.refl _ _).alloc h _, NB.below ((Below.refl _ _).alloc (Nat.le_refl _) _)⟩
theorem box_nb (w : World) (cs : Array Value) : ∀ c f, (w.alloc (.cells cs 25)).heap[w.heap.size]? ≠ some (.cells c 5 f) := fun c f h => by
  have := Blk.new w cs 25
  unfold Blk at this
  rw [this] at h
  injection h with h
  injection h with _ ht
  exact absurd ht (by decide)
theorem six_nb (w : World) (p : Pay) (ka : Option Addr) (kc : Nat) (ia : Option Addr) (n ic : Nat) {w' : World} (h : NB (w.alloc (.cells (obox p ka kc ia n ic) 25)) w') : Six w' w.heap.size 0 p ka kc ia n ic :=
  (six_box w p ka kc ia n ic 25).nb (by simp) (box_nb w _) h
set_option maxRecDepth 8000 in
set_option maxHeartbeats 1000000 in
theorem aarr_step (W : World) (M : Nat) (ih : AoIH W M) (T : BT Pay) (b off : Nat) (ia : Option Addr) (ic : Nat) (v : Value) (ys : List UInt8) (w : World) (hM : fsize T ≤ M) (hf : fineF T) (hia : T = .nil ∨ (ia = some ⟨b, off, none⟩ ∧ b < W.heap.size)) (hrows : Rows W T b off)
    (hn : flen T ≤ 1599289640401) (hb : Below W.heap.size W w) (h : BRow w W.heap.size v ys) (hl : ys.length + (forT T false [] true).length + 1000002 ≤ 140737488355328) :
    Calls Tryz.prog 34 #[v, .slice ia (flen T) ic] w (AoR W.heap.size w (ys ++ 91 :: (forT T false [] true ++ [93]))) := by
  obtain ⟨v1, w1, hr, hb1, hw1⟩ := app_b3 (W := w) [91] h hb.size (by simp) (by simp; omega) _ rfl
  have IH := hide ih
  have HR := hide hr
  have HB1 := hide hb1
  have HW1 := hide hw1
  have HIA := hide hia
  have HRW := hide hrows
  have HF := hide hf
  have HM := hide hM
  have HL := hide hl
  have HB := hide hb
  have hl1 : (flen T : Int) ≤ 1599289640401 := by omega
  have hl0 : (0 : Int) ≤ (flen T : Int) := by omega
  clear ih hr hb1 hw1 hia hrows hf hM hl hb h hn
  go_enter Tryz.func34, Tryz.ntmps34
  go_wp2_with (at_builtin; refine Lib.wpList_append_run _ rfl _ _ _ _ rfl _ _ rfl rfl _ _ HR.out ?_)
  go_loopw [0, 12] (fun vt vi wr => ∃ (k : Nat) (U : BT Pay) (F zs : List UInt8), vi = .int .i64 k ∧ Hid (flen U + k = flen T ∧ fsize U ≤ fsize T ∧ fineF U ∧ Rows W U b (off + k * 6) ∧ BRow wr W.heap.size vt zs ∧ St F zs ∧ F ++ forT U false [] (decide (k = 0)) = ys ++ 91 :: forT T false [] true ∧ KB W.heap.size w wr)) (fun _ vi _ => flen T - (intOf vi).toNat)
  case atStart => exact ⟨0, T, ys ++ [91], ys ++ [91], rfl, hide ⟨by omega, Nat.le_refl _, HF.out, by simpa using HRW.out, HB1.out, St.refl _, by simp, HW1.out⟩⟩
  case round =>
    clear HB1 HW1 HR HRW HF
    obtain ⟨k, U, F, zs, rfl, HV⟩ := hrel
    obtain ⟨hk, hu, hfu, hrow, hbr, hst, heq, hkb⟩ := HV.out
    clear HV
    have hkk : (0 : Int) ≤ (k : Int) := by omega
    have hbel : Below W.heap.size W wr := HB.out.trans hkb.below
    have hle := hst.le
    have hlen := congrArg List.length heq
    have hL := HL.out
    simp only [List.length_append, List.length_cons] at hlen
    have HKB := hide hkb
    have HST := hide hst
    cases U with
    | nil =>
      have hk' : ¬ k < flen T := by simp [flen] at hk; omega
      obtain ⟨v2, w2, hr2, hb2, hw2⟩ := app_b3 (W := wr) [93] hbr hbel.size (by simp) (by simp only [List.length_singleton]; omega) _ rfl
      have HR2 := hide hr2
      have e : ys ++ 91 :: (forT T false [] true ++ [93]) = F ++ [93] := by
        have := heq
        simp only [forT, List.append_nil] at this
        rw [this]
        simp
      have HFN : Hid (AoR W.heap.size w (ys ++ 91 :: (forT T false [] true ++ [93])) (.returned v2) w2) := hide (by rw [e]; exact ⟨v2, zs ++ [93], rfl, hb2, hst.app [93], hkb.trans hw2⟩)
      clear hk hu hfu hrow hbr hst heq hkb hbel hle hlen hL hr2 hb2 hw2 e HST HKB
      go_wp2_with (at_builtin; refine Lib.wpList_append_run _ rfl _ _ _ _ rfl _ _ rfl rfl _ _ HR2.out ?_)
      go_ret
      exact HFN.out
    | node b0 o0 q TT N =>
      obtain ⟨⟨ka2, kc2, ia2, ic2, g6, gin⟩, grest⟩ := rows_node.1 hrow
      obtain rfl | ⟨rfl, hbz⟩ := HIA.out
      · simp [flen] at hk
      have hlt : k < flen T := by simp [flen] at hk; omega
      have hst' : fsize TT < M := by have := HM.out; simp [fsize] at hu; omega
      obtain ⟨c0, c1, c2, c3, c4, c5⟩ := g6.below hbz hbel
      rw [forT_node] at heq hlen
      simp only [Bool.false_eq_true, if_false, List.nil_append, List.tail_nil] at heq hlen
      have hwA := KB.alloc wr (.cells (obox q ka2 kc2 ia2 (flen TT) ic2) 25) hbel.size
      have hbA : BRow (wr.alloc (.cells (obox q ka2 kc2 ia2 (flen TT) ic2) 25)) W.heap.size u0 zs := World.ownsRow.alloc hbr _
      have HK := hide (show flen N + (k + 1) = flen T ∧ fsize N ≤ fsize T by simp [flen, fsize] at hk hu; omega)
      have HRR := hide (show Rows W N b (off + (k + 1) * 6) by rw [show off + (k + 1) * 6 = off + k * 6 + 6 by omega]; exact grest)
      have HFN := hide hfu.2
      by_cases hk0 : k = 0
      · have g0 : ¬ 0 < k := by omega
        have g1 : ¬ (0 : Int) < (k : Int) := by omega
        rw [decide_eq_true hk0] at heq hlen
        simp only [if_true, List.nil_append] at heq hlen
        simp only [List.length_append] at hlen
        have CI := hide (IH.out q TT ka2 kc2 ia2 ic2 u0 zs _ hst' hfu.1 gin (hbel.trans hwA.below) hbA (by omega))
        have HEQ : Hid (F ++ objT q TT ++ forT N false [] (decide (k + 1 = 0)) = ys ++ 91 :: forT T false [] true) := hide (by rw [← heq]; simp)
        have HWA := hide (hkb.trans hwA)
        clear hk hu hfu hrow hbr hst heq hkb hbel hle hlen hL hwA hbA g6 gin grest hk0 HKB
        go_wp2_with (go_at_call 21; refine CI.out.mono ?_; rintro e wy ⟨v3, us, rfl, hb3, hs3, hk3⟩; have HB3 := hide hb3; have HS3 := hide hs3; have HK3 := hide hk3; clear hb3 hs3 hk3)
        go_roundw
        case rel => exact ⟨k + 1, N, F ++ objT q TT, us, by go_num, hide ⟨HK.out.1, HK.out.2, HFN.out, HRR.out, HB3.out, HST.out.trans HS3.out, HEQ.out, HWA.out.trans HK3.out⟩⟩
        case measure => simp [intOf]; omega
      · have g0 : 0 < k := by omega
        have g1 : (0 : Int) < (k : Int) := by omega
        rw [decide_eq_false hk0] at heq hlen
        simp only [Bool.false_eq_true, if_false] at heq hlen
        simp only [List.length_append, List.length_singleton] at hlen
        obtain ⟨v2, w2, hr2, hb2, hw2⟩ := app_b3 (W := wr.alloc (.cells (obox q ka2 kc2 ia2 (flen TT) ic2) 25)) [32] hbA (Nat.le_trans hbel.size hwA.size) (by simp) (by simp only [List.length_singleton]; omega) (wr.heap.size + 1) (by simp)
        have HR2 := hide hr2
        obtain ⟨s0, s1, s2, s3, s4, s5⟩ := six_nb wr q ka2 kc2 ia2 (flen TT) ic2 hw2.nb
        simp only [Nat.zero_add] at s1 s2 s3 s4 s5
        have CI := hide (IH.out q TT ka2 kc2 ia2 ic2 v2 (zs ++ [32]) w2 hst' hfu.1 gin ((hbel.trans hwA.below).trans hw2.below) hb2 (by simp only [List.length_append, List.length_singleton]; omega))
        have HEQ : Hid (F ++ [32] ++ objT q TT ++ forT N false [] (decide (k + 1 = 0)) = ys ++ 91 :: forT T false [] true) := hide (by rw [← heq]; simp)
        have HWA := hide ((hkb.trans hwA).trans hw2)
        clear hk hu hfu hrow hbr hst heq hkb hbel hle hlen hL hwA hbA g6 gin grest hk0 HKB hr2 hb2 hw2
        go_wp2_with (first | (at_builtin; refine Lib.wpList_append_run _ rfl _ _ _ _ rfl _ _ rfl rfl _ _ HR2.out ?_) | (go_at_call 21; refine CI.out.mono ?_; rintro e wy ⟨v3, us, rfl, hb3, hs3, hk3⟩; have HB3 := hide hb3; have HS3 := hide hs3; have HK3 := hide hk3; clear hb3 hs3 hk3))
        go_roundw
        case rel => exact ⟨k + 1, N, F ++ [32] ++ objT q TT, us, by go_num, hide ⟨HK.out.1, HK.out.2, HFN.out, HRR.out, HB3.out, (HST.out.app [32]).trans HS3.out, HEQ.out, HWA.out.trans HK3.out⟩⟩
        case measure => simp [intOf]; omega
end Go.Proofs.YtalmcdbdibpgkaaGreatDoor
/-
  What the landed appendDict answers.
-/
namespace Go.Proofs.YtalmcdbdibpgkaaGreatDoor
open Go.RowKit Go.Deep

theorem headD_drop (l : List ByteArray) (k : Nat) : (l.drop k).headD ByteArray.empty = l.getD k ByteArray.empty := by
  rw [List.headD_eq_head?_getD, List.head?_drop, List.getD_eq_getElem?_getD]
theorem getD_mem {l : List ByteArray} {k : Nat} (h : k < l.length) : l.getD k ByteArray.empty ∈ l := by
  rw [List.getD_eq_getElem?_getD, List.getElem?_eq_getElem h]
  exact List.getElem_mem h
set_option maxRecDepth 8000 in
set_option maxHeartbeats 1000000 in
theorem adict_step (W : World) (M : Nat) (ih : AoIH W M) (p : Pay) (T : BT Pay) (b off : Nat) (ka : Option Addr) (kc : Nat) (ia : Option Addr) (ic : Nat) (v : Value) (ys : List UInt8) (w : World) (hM : fsize T ≤ M) (hf : fineF T) (hks : p.keys.length = flen T ∧ ∀ s ∈ p.keys, s.size ≤ 127) (hin : OIn W p T ka kc ia ic)
    (hia : T = .nil ∨ (ia = some ⟨b, off, none⟩ ∧ b < W.heap.size)) (hrows : Rows W T b off) (hb : Below W.heap.size W w) (h : BRow w W.heap.size v ys) (hl : ys.length + (forT T true p.keys true).length + 1000004 ≤ 140737488355328) :
    Calls Tryz.prog 35 #[v, ov p ka kc ia (flen T) ic] w (AoR W.heap.size w (ys ++ 60 :: 60 :: (forT T true p.keys true ++ [62, 62]))) := by
  have hwA := KB.alloc w (.cells (obox p ka kc ia (flen T) ic) 25) hb.size
  obtain ⟨v1, w1, hr, hb1, hw1⟩ := app_s3 (W := w.alloc (.cells (obox p ka kc ia (flen T) ic) 25)) ⟨#[60, 60]⟩ (World.ownsRow.alloc h _) (Nat.le_trans hb.size hwA.size) (by show _ + 2 ≤ _; omega)
  have IH := hide ih
  have HR := hide hr
  have HB1 := hide hb1
  have HW1 := hide hw1
  have HWA := hide hwA
  have HIA := hide hia
  have HRW := hide hrows
  have HF := hide hf
  have HM := hide hM
  have HL := hide hl
  have HB := hide (hb.trans hwA.below)
  have HKS := hide hks
  have HS := hide hin.2.1.1
  obtain ⟨r0, r1, r2, r3, r4, r5⟩ := six_nb w p ka kc ia (flen T) ic hw1.nb
  simp only [Nat.zero_add] at r1 r2 r3 r4 r5
  have SX := hide (fun x (hx : NB (w.alloc (.cells (obox p ka kc ia (flen T) ic) 25)) x) => six_nb w p ka kc ia (flen T) ic hx)
  have hl2 : (p.keys.length : Int) ≤ 8796093022208 := by have := hin.2.1.2.1.2; omega
  have hl0 : (0 : Int) ≤ (p.keys.length : Int) := by omega
  have hl3 : (flen T : Int) ≤ 1599289640401 := by have := hin.2.2.1.2; omega
  clear ih hr hb1 hw1 hia hrows hf hM hl hb h hwA hin hks
  go_enter Tryz.func35, Tryz.ntmps35
  go_wp2_with (at_builtin; refine Lib.wpList_append_run _ rfl _ _ _ _ rfl _ _ rfl rfl _ _ HR.out ?_)
  clear r0 r1 r2 r3 r4 r5
  go_loopw [0, 12] (fun vt vi wr => ∃ (k : Nat) (U : BT Pay) (F zs : List UInt8), vi = .int .i64 k ∧ Hid (flen U + k = flen T ∧ fsize U ≤ fsize T ∧ fineF U ∧ Rows W U b (off + k * 6) ∧ BRow wr W.heap.size vt zs ∧ St F zs ∧ F ++ forT U true (p.keys.drop k) (decide (k = 0)) = ys ++ 60 :: 60 :: forT T true p.keys true ∧ KB W.heap.size (w.alloc (.cells (obox p ka kc ia (flen T) ic) 25)) wr)) (fun _ vi _ => flen T - (intOf vi).toNat)
  case atStart => exact ⟨0, T, ys ++ [60, 60], ys ++ [60, 60], rfl, hide ⟨by omega, Nat.le_refl _, HF.out, by simpa using HRW.out, HB1.out, St.refl _, by simp, HW1.out⟩⟩
  case round =>
    clear HB1 HW1 HR HRW HF
    obtain ⟨k, U, F, zs, rfl, HV⟩ := hrel
    obtain ⟨hk, hu, hfu, hrow, hbr, hst, heq, hkb⟩ := HV.out
    clear HV
    have hkk : (0 : Int) ≤ (k : Int) := by omega
    have hbel : Below W.heap.size W wr := HB.out.trans hkb.below
    have hle := hst.le
    have hlen := congrArg List.length heq
    have hL := HL.out
    simp only [List.length_append, List.length_cons] at hlen
    have HKB := hide hkb
    have HST := hide hst
    cases U with
    | nil =>
      have hk' : ¬ k < p.keys.length := by rw [HKS.out.1]; simp [flen] at hk; omega
      obtain ⟨v2, w2, hr2, hb2, hw2⟩ := app_s3 (W := wr) ⟨#[62, 62]⟩ hbr hbel.size (by show _ + 2 ≤ _; omega)
      have HR2 := hide hr2
      have e : ys ++ 60 :: 60 :: (forT T true p.keys true ++ [62, 62]) = F ++ [62, 62] := by
        have := heq
        simp only [forT, List.append_nil] at this
        rw [this]
        simp
      have HFN : Hid (AoR W.heap.size w (ys ++ 60 :: 60 :: (forT T true p.keys true ++ [62, 62])) (.returned v2) w2) := hide (by rw [e]; exact ⟨v2, zs ++ [62, 62], rfl, hb2, hst.app [62, 62], (HWA.out.trans hkb).trans hw2⟩)
      clear hk hu hfu hrow hbr hst heq hkb hbel hle hlen hL hr2 hb2 hw2 e HST HKB
      go_wp2_with (at_builtin; refine Lib.wpList_append_run _ rfl _ _ _ _ rfl _ _ rfl rfl _ _ HR2.out ?_)
      go_ret
      exact HFN.out
    | node b0 o0 q TT N =>
      obtain ⟨⟨ka2, kc2, ia2, ic2, g6, gin⟩, grest⟩ := rows_node.1 hrow
      obtain rfl | ⟨rfl, hbz⟩ := HIA.out
      · simp [flen] at hk
      have hlt' : k < flen T := by simp [flen] at hk; omega
      have hlt : k < p.keys.length := by rw [HKS.out.1]; exact hlt'
      have hst' : fsize TT < M := by have := HM.out; simp [fsize] at hu; omega
      obtain ⟨bk, ok, rfl, hkz, hkey⟩ := HS.out.get hlt
      have hkc := (hbel.cell (p := ⟨bk, ok + k, none⟩) hkz).trans (hkey k hlt)
      have hsz := HKS.out.2 _ (getD_mem hlt)
      rw [forT_node, headD_drop, List.tail_drop] at heq hlen
      generalize p.keys.getD k ByteArray.empty = key at hkc hsz heq hlen
      simp only [if_true] at heq hlen
      have G6 := hide g6
      have HK := hide (show flen N + (k + 1) = flen T ∧ fsize N ≤ fsize T by simp [flen, fsize] at hk hu; omega)
      have HRR := hide (show Rows W N b (off + (k + 1) * 6) by rw [show off + (k + 1) * 6 = off + k * 6 + 6 by omega]; exact grest)
      have HFN := hide hfu.2
      have CI := hide (fun v ys w => IH.out q TT ka2 kc2 ia2 ic2 v ys w hst' hfu.1 gin)
      have HBE := hide hbel
      by_cases hk0 : k = 0
      · have g0 : ¬ 0 < k := by omega
        have g1 : ¬ (0 : Int) < (k : Int) := by omega
        rw [decide_eq_true hk0] at heq hlen
        simp only [if_true, List.nil_append] at heq hlen
        simp only [List.length_append, List.length_singleton] at hlen
        have CN := hide (appendName_kb u0 (zs) W.heap.size key wr hbr (hbel.size) (by omega))
        have HLN : Hid ((zs).length + (nameT key.data.toList).length + 1 + (objT q TT).length + 1000000 ≤ 140737488355328) := hide (by omega)
        have HEQ : Hid (F ++ nameT key.data.toList ++ [32] ++ objT q TT ++ forT N true (p.keys.drop (k + 1)) (decide (k + 1 = 0)) = ys ++ 60 :: 60 :: forT T true p.keys true) := hide (by rw [← heq]; simp)
        have HS2 : Hid (St (F ++ nameT key.data.toList ++ [32]) (zs ++ nameT key.data.toList ++ [32])) := hide ((hst.app _).app _)
        clear hk hu hfu hrow hbr hst heq hkb hbel hle hlen hL g6 gin grest hk0 hkey hsz
        go_wp2_with (first
          
          | (go_at_call 32; refine CN.out.mono ?_; rintro e wy ⟨v3, rfl, hb3, hw3⟩; have HQ := hide ((HKB.out).trans hw3); obtain ⟨v4, w4, hr4, hb4, hw4⟩ := app_b3 (W := wy) [32] hb3 (Nat.le_trans HB.out.size HQ.out.size) (by simp) (by have := HLN.out; simp only [List.length_append, List.length_singleton] at this ⊢; omega) _ rfl; have HR4 := hide hr4; have HK4 := hide (HQ.out.trans hw4); have hbe4 := HB.out.trans HK4.out.below; have CI4 := hide (CI.out v4 _ w4 hbe4 hb4 (by have := HLN.out; simp only [List.length_append, List.length_singleton] at this ⊢; omega)); obtain ⟨s0, s1, s2, s3, s4, s5⟩ := SX.out w4 HK4.out.nb; simp only [Nat.zero_add] at s1 s2 s3 s4 s5; obtain ⟨c0, c1, c2, c3, c4, c5⟩ := G6.out.below hbz hbe4; clear hb3 hw3 hr4 hb4 hw4 hbe4)
          | (at_builtin; refine Lib.wpList_append_run _ rfl _ _ _ _ rfl _ _ rfl rfl _ _ HR4.out ?_)
          | (go_at_call 21; refine CI4.out.mono ?_; rintro e wz ⟨v5, us, rfl, hb5, hs5, hk5⟩; have HB5 := hide hb5; have HS5 := hide hs5; have HK5 := hide hk5; clear hb5 hs5 hk5))
        go_roundw
        case rel => exact ⟨k + 1, N, F ++ nameT key.data.toList ++ [32] ++ objT q TT, us, by go_num, hide ⟨HK.out.1, HK.out.2, HFN.out, HRR.out, HB5.out, HS2.out.trans HS5.out, HEQ.out, HK4.out.trans HK5.out⟩⟩
        case measure => simp [intOf]; omega
      · have g0 : 0 < k := by omega
        have g1 : (0 : Int) < (k : Int) := by omega
        rw [decide_eq_false hk0] at heq hlen
        simp only [Bool.false_eq_true, if_false] at heq hlen
        simp only [List.length_append, List.length_singleton] at hlen
        obtain ⟨v2, w2, hr2, hb2, hw2⟩ := app_b3 (W := wr) [32] hbr hbel.size (by simp) (by simp only [List.length_singleton]; omega) _ rfl
        have HR2 := hide hr2
        have HK2 := hide hw2
        clear hr2
        have CN := hide (appendName_kb v2 (zs ++ [32]) W.heap.size key w2 hb2 (Nat.le_trans hbel.size hw2.size) (by simp only [List.length_append, List.length_singleton]; omega))
        have HLN : Hid ((zs ++ [32]).length + (nameT key.data.toList).length + 1 + (objT q TT).length + 1000000 ≤ 140737488355328) := hide (by simp only [List.length_append, List.length_singleton]; omega)
        have HEQ : Hid (F ++ [32] ++ nameT key.data.toList ++ [32] ++ objT q TT ++ forT N true (p.keys.drop (k + 1)) (decide (k + 1 = 0)) = ys ++ 60 :: 60 :: forT T true p.keys true) := hide (by rw [← heq]; simp)
        have HS2 : Hid (St (F ++ [32] ++ nameT key.data.toList ++ [32]) (zs ++ [32] ++ nameT key.data.toList ++ [32])) := hide (((hst.app [32]).app _).app _)
        clear hk hu hfu hrow hbr hst heq hkb hbel hle hlen hL g6 gin grest hk0 hkey hsz hb2 hw2
        go_wp2_with (first
          | (at_builtin; refine Lib.wpList_append_run _ rfl _ _ _ _ rfl _ _ rfl rfl _ _ HR2.out ?_)
          | (go_at_call 32; refine CN.out.mono ?_; rintro e wy ⟨v3, rfl, hb3, hw3⟩; have HQ := hide ((HKB.out.trans HK2.out).trans hw3); obtain ⟨v4, w4, hr4, hb4, hw4⟩ := app_b3 (W := wy) [32] hb3 (Nat.le_trans HB.out.size HQ.out.size) (by simp) (by have := HLN.out; simp only [List.length_append, List.length_singleton] at this ⊢; omega) _ rfl; have HR4 := hide hr4; have HK4 := hide (HQ.out.trans hw4); have hbe4 := HB.out.trans HK4.out.below; have CI4 := hide (CI.out v4 _ w4 hbe4 hb4 (by have := HLN.out; simp only [List.length_append, List.length_singleton] at this ⊢; omega)); obtain ⟨s0, s1, s2, s3, s4, s5⟩ := SX.out w4 HK4.out.nb; simp only [Nat.zero_add] at s1 s2 s3 s4 s5; obtain ⟨c0, c1, c2, c3, c4, c5⟩ := G6.out.below hbz hbe4; clear hb3 hw3 hr4 hb4 hw4 hbe4)
          | (at_builtin; refine Lib.wpList_append_run _ rfl _ _ _ _ rfl _ _ rfl rfl _ _ HR4.out ?_)
          | (go_at_call 21; refine CI4.out.mono ?_; rintro e wz ⟨v5, us, rfl, hb5, hs5, hk5⟩; have HB5 := hide hb5; have HS5 := hide hs5; have HK5 := hide hk5; clear hb5 hs5 hk5))
        go_roundw
        case rel => exact ⟨k + 1, N, F ++ [32] ++ nameT key.data.toList ++ [32] ++ objT q TT, us, by go_num, hide ⟨HK.out.1, HK.out.2, HFN.out, HRR.out, HB5.out, HS2.out.trans HS5.out, HEQ.out, HK4.out.trans HK5.out⟩⟩
        case measure => simp [intOf]; omega
end Go.Proofs.YtalmcdbdibpgkaaGreatDoor
/-
  What the landed appendObject and Print answer: of any good object.
-/
namespace Go.Proofs.YtalmcdbdibpgkaaGreatDoor
open Go.RowKit Go.Deep

theorem BRow.later {w w' : World} {B : Nat} {v : Value} {ys : List UInt8} (h : BRow w B v ys) (hb : Below w.heap.size w w') : BRow w' B v ys := ownsRow_kept h fun k _ h2 => hb.block k h2
theorem KB.of_below {B : Nat} {w w' : World} (hB : B ≤ w.heap.size) (h : Below w.heap.size w w') : KB B w w' := ⟨h.mono hB, NB.below h⟩
set_option maxRecDepth 8000 in
set_option maxHeartbeats 1000000 in
theorem ao_stop (p : Pay) (n : Nat) (ka : Option Addr) (kc : Nat) (ia : Option Addr) (ic : Nat) (v : Value) (ys : List UInt8) (B : Nat) (w : World) (h : BRow w B v ys) (hB : B ≤ w.heap.size) (hlt : 1048576 < ys.length) (hmx : ys.length ≤ 140737488355328) :
    Calls Tryz.prog 21 #[v, ov p ka kc ia n ic] w fun e w' => e = .returned v ∧ BRow w' B v ys ∧ KB B w w' := by
  obtain ⟨a, cap, rfl⟩ := h.shape
  have HB := hide (World.ownsRow.alloc h (.cells (obox p ka kc ia n ic) 25))
  have HK := hide (KB.alloc w (.cells (obox p ka kc ia n ic) 25) hB)
  have g : decide ((1048576 : Int) < (ys.length : Int)) = true := by simp; omega
  clear h hB hlt hmx
  go_enter Tryz.func21, Tryz.ntmps21
  go_wp2_with fail
  go_ret
  exact ⟨rfl, HB.out, HK.out⟩
def AtR (B : Nat) (w : World) (F : List UInt8) (e : Ending) (w' : World) : Prop := ∃ v', e = .returned v' ∧ BRow w' B v' F ∧ KB B w w'
set_option maxRecDepth 8000 in
set_option maxHeartbeats 1000000 in
theorem ao_atom (p : Pay) (n : Nat) (ka : Option Addr) (kc : Nat) (ia : Option Addr) (ic : Nat) (v : Value) (ys : List UInt8) (B : Nat) (w : World) (hf : flatV p n = true) (h6 : p.kind ≠ 6) (h7 : p.kind ≠ 7) (h : BRow w B v ys) (hB : B ≤ w.heap.size) (hle : ys.length ≤ 1048576) (hg : D2.Glo w)
    (ht : Lib.TabBelow Tryz.prog B w "internal/strconv.uint64pow10" .u64 Lib.pow10Tab) :
    Calls Tryz.prog 21 #[v, ov p ka kc ia n ic] w (AtR B w (ys ++ atomT p)) := by
  obtain ⟨a, cap, rfl⟩ := h.shape
  have g : decide ((1048576 : Int) < (ys.length : Int)) = false := by simp; omega
  have hbA : BRow (w.alloc (.cells (obox p ka kc ia n ic) 25)) B (.slice a ys.length cap) ys := World.ownsRow.alloc h (.cells (obox p ka kc ia n ic) 25)
  have HK := hide (KB.alloc w (.cells (obox p ka kc ia n ic) 25) hB)
  have hBA := Nat.le_trans hB HK.out.size
  have HG := hide (hg.below ((Below.refl _ _).alloc (Nat.le_refl _) (.cells (obox p ka kc ia n ic) 25)))
  have HT := hide (ht.on HK.out.below)
  rcases flat_kind hf with hk | hk | hk | hk | hk | hk | hk | hk | hk
  · have e0 : atomT p = [110, 117, 108, 108] := by unfold atomT; rw [hk]; rfl
    rw [e0]
    obtain ⟨v2, w2, hr2, hb2, hw2⟩ := app_s3 ⟨#[110, 117, 108, 108]⟩ hbA hBA (by show _ + 4 ≤ _; omega)
    have e1 : (p.kind == 1) = false := by rw [hk]; rfl
    have e2 : (p.kind == 2) = false := by rw [hk]; rfl
    have e3 : (p.kind == 3) = false := by rw [hk]; rfl
    have e4 : (p.kind == 4) = false := by rw [hk]; rfl
    have e5 : (p.kind == 5) = false := by rw [hk]; rfl
    have e6 : (p.kind == 6) = false := by rw [hk]; rfl
    have e7 : (p.kind == 7) = false := by rw [hk]; rfl
    have e8 : (p.kind == 8) = false := by rw [hk]; rfl
    have HR := hide hr2
    have HF : Hid (AtR B w (ys ++ [110, 117, 108, 108]) (.returned v2) w2) := hide ⟨v2, rfl, hb2, HK.out.trans hw2⟩
    clear e0 hk h hB hle hg ht hbA hBA HG HT hf h6 h7 hr2 hb2 hw2 HK
    go_enter Tryz.func21, Tryz.ntmps21
    go_wp2_with (at_builtin; refine Lib.wpList_append_run _ rfl _ _ _ _ rfl _ _ rfl rfl _ _ HR.out ?_)
    go_ret
    exact HF.out
  · have e0 : atomT p = boolT p.flag := by unfold atomT; rw [hk]; rfl
    rw [e0]
    have C := hide (appendBool_kb _ ys B p.flag _ hbA hBA (by omega))
    have e1 : (p.kind == 1) = true := by rw [hk]; rfl
    clear e0 hk h hB hle hg ht hbA hBA HG HT hf h6 h7
    go_enter Tryz.func21, Tryz.ntmps21
    go_wp2_with (go_at_call 29; refine C.out.mono ?_; rintro e wy ⟨v3, rfl, hb3, hw3⟩; have HF : Hid (AtR B w (ys ++ boolT p.flag) (.returned v3) wy) := hide ⟨v3, rfl, hb3, HK.out.trans hw3⟩; clear hb3 hw3)
    go_ret
    exact HF.out
  · have e0 : atomT p = intT p.num := by unfold atomT; rw [hk]; rfl
    rw [e0]
    have hn := flat_int hf hk
    have C := hide (appendInt_kb _ ys B p.num _ (by omega) (by omega) hbA hBA (by omega) HT.out)
    rw [itoa_intT] at C
    have e1 : (p.kind == 1) = false := by rw [hk]; rfl
    have e2 : (p.kind == 2) = true := by rw [hk]; rfl
    clear e0 hk h hB hle hg ht hbA hBA HG HT hf h6 h7 hn
    go_enter Tryz.func21, Tryz.ntmps21
    go_wp2_with (go_at_call 30; refine C.out.mono ?_; rintro e wy ⟨v3, rfl, hb3, hw3⟩; have HF : Hid (AtR B w (ys ++ intT p.num) (.returned v3) wy) := hide ⟨v3, rfl, hb3, HK.out.trans hw3⟩; clear hb3 hw3)
    go_ret
    exact HF.out
  · have e0 : atomT p = D2.textL p.num := by unfold atomT; rw [hk]; rfl
    rw [e0]
    have hn := flat_real hf hk
    have hlen := realT_len _ hn
    have C := D2.text_any p.num _ HG.out
    rw [show D2.textV p.num = .tuple #[.string ⟨(D2.textL p.num).toArray⟩, .bool true] by unfold D2.textV; rw [if_pos (by unfold inB; exact decide_eq_true hn)]] at C
    have C := hide C
    generalize D2.textL p.num = L at C hlen
    have AP := hide (fun x (hx : Below (w.alloc (.cells (obox p ka kc ia n ic) 25)).heap.size (w.alloc (.cells (obox p ka kc ia n ic) 25)) x) => app_s3 (W := x) ⟨L.toArray⟩ (hbA.later hx) (Nat.le_trans hBA hx.size) (by rw [show (⟨L.toArray⟩ : ByteArray).size = L.length by simp [ByteArray.size]]; omega))
    have HKB := hide (fun x (hx : Below (w.alloc (.cells (obox p ka kc ia n ic) 25)).heap.size (w.alloc (.cells (obox p ka kc ia n ic) 25)) x) => HK.out.trans (KB.of_below hBA hx))
    have e1 : (p.kind == 1) = false := by rw [hk]; rfl
    have e2 : (p.kind == 2) = false := by rw [hk]; rfl
    have e3 : (p.kind == 3) = true := by rw [hk]; rfl
    clear e0 hk h hB hle hg ht hbA hBA HG HT hf h6 h7 hn hlen
    go_enter Tryz.func21, Tryz.ntmps21
    go_wp2_with (first
      | (go_at_call 31; refine C.out.mono ?_; rintro e wy ⟨rfl, hy⟩; obtain ⟨v2, w2, hr2, hb2, hw2⟩ := AP.out wy hy; have HR := hide hr2; have HF : Hid (AtR B w (ys ++ L) (.returned v2) w2) := hide ⟨v2, rfl, hb2, (HKB.out _ hy).trans hw2⟩; clear hr2 hb2 hw2 hy)
      | (at_builtin; refine Lib.wpList_append_run _ rfl _ _ _ _ rfl _ _ rfl rfl _ _ HR.out ?_))
    go_ret
    exact HF.out
  · have e0 : atomT p = nameT p.text.data.toList := by unfold atomT; rw [hk]; rfl
    rw [e0]
    have hn := flat_name hf hk
    have C := hide (appendName_kb _ ys B p.text _ hbA hBA (by omega))
    have e1 : (p.kind == 1) = false := by rw [hk]; rfl
    have e2 : (p.kind == 2) = false := by rw [hk]; rfl
    have e3 : (p.kind == 3) = false := by rw [hk]; rfl
    have e4 : (p.kind == 4) = true := by rw [hk]; rfl
    clear e0 hk h hB hle hg ht hbA hBA HG HT hf h6 h7 hn
    go_enter Tryz.func21, Tryz.ntmps21
    go_wp2_with (go_at_call 32; refine C.out.mono ?_; rintro e wy ⟨v3, rfl, hb3, hw3⟩; have HF : Hid (AtR B w (ys ++ nameT p.text.data.toList) (.returned v3) wy) := hide ⟨v3, rfl, hb3, HK.out.trans hw3⟩; clear hb3 hw3)
    go_ret
    exact HF.out
  · have e0 : atomT p = strT p.text.data.toList := by unfold atomT; rw [hk]; rfl
    rw [e0]
    have hn := flat_str hf hk
    have C := hide (appendString_kb _ ys B p.text _ hbA hBA (by omega))
    have e1 : (p.kind == 1) = false := by rw [hk]; rfl
    have e2 : (p.kind == 2) = false := by rw [hk]; rfl
    have e3 : (p.kind == 3) = false := by rw [hk]; rfl
    have e4 : (p.kind == 4) = false := by rw [hk]; rfl
    have e5 : (p.kind == 5) = true := by rw [hk]; rfl
    clear e0 hk h hB hle hg ht hbA hBA HG HT hf h6 h7 hn
    go_enter Tryz.func21, Tryz.ntmps21
    go_wp2_with (go_at_call 33; refine C.out.mono ?_; rintro e wy ⟨v3, rfl, hb3, hw3⟩; have HF : Hid (AtR B w (ys ++ strT p.text.data.toList) (.returned v3) wy) := hide ⟨v3, rfl, hb3, HK.out.trans hw3⟩; clear hb3 hw3)
    go_ret
    exact HF.out
  · exact absurd hk h6
  · exact absurd hk h7
  · have e0 : atomT p = intT p.num ++ [32, 48, 32, 82] := by unfold atomT; rw [hk]; rfl
    rw [e0]
    have hn := flat_ref hf hk
    have hlen := intT_len p.num (by omega)
    have C := hide (appendInt_kb _ ys B p.num _ (by omega) (by omega) hbA hBA (by omega) HT.out)
    rw [itoa_intT] at C
    have AP := hide (fun x v (hx : BRow x B v (ys ++ intT p.num)) (hy : B ≤ x.heap.size) => app_s3 (W := x) ⟨#[32, 48, 32, 82]⟩ hx hy (by show _ + 4 ≤ _; simp only [List.length_append]; omega))
    have HBA := hide hBA
    have e1 : (p.kind == 1) = false := by rw [hk]; rfl
    have e2 : (p.kind == 2) = false := by rw [hk]; rfl
    have e3 : (p.kind == 3) = false := by rw [hk]; rfl
    have e4 : (p.kind == 4) = false := by rw [hk]; rfl
    have e5 : (p.kind == 5) = false := by rw [hk]; rfl
    have e6 : (p.kind == 6) = false := by rw [hk]; rfl
    have e7 : (p.kind == 7) = false := by rw [hk]; rfl
    have e8 : (p.kind == 8) = true := by rw [hk]; rfl
    clear e0 hk h hB hle hg ht hbA hBA HG HT hf h6 h7 hn hlen
    go_enter Tryz.func21, Tryz.ntmps21
    go_wp2_with (first
      | (go_at_call 30; refine C.out.mono ?_; rintro e wy ⟨v3, rfl, hb3, hw3⟩; obtain ⟨v2, w2, hr2, hb2, hw2⟩ := AP.out wy v3 hb3 (Nat.le_trans HBA.out hw3.size); have HR := hide hr2; have HF : Hid (AtR B w (ys ++ (intT p.num ++ [32, 48, 32, 82])) (.returned v2) w2) := hide ⟨v2, rfl, by rw [← List.append_assoc]; exact hb2, (HK.out.trans hw3).trans hw2⟩; clear hb3 hw3 hr2 hb2 hw2)
      | (at_builtin; refine Lib.wpList_append_run _ rfl _ _ _ _ rfl _ _ rfl rfl _ _ HR.out ?_))
    go_ret
    exact HF.out
set_option maxRecDepth 8000 in
set_option maxHeartbeats 1000000 in
theorem ao_arr (W : World) (M : Nat) (ih : AoIH W M) (p : Pay) (T : BT Pay) (ka : Option Addr) (kc : Nat) (ia : Option Addr) (ic : Nat) (v : Value) (ys : List UInt8) (w : World) (h6 : p.kind = 6) (hM : fsize T ≤ M) (hf : fine p T) (hin : OIn W p T ka kc ia ic) (hb : Below W.heap.size W w) (h : BRow w W.heap.size v ys)
    (hlong : ys.length ≤ 1048576) (hl : ys.length + (forT T false [] true).length + 1000002 ≤ 140737488355328) : Calls Tryz.prog 21 #[v, ov p ka kc ia (flen T) ic] w (AoR W.heap.size w (ys ++ 91 :: (forT T false [] true ++ [93]))) := by
  obtain ⟨b, off, hia, hrows⟩ := hin.at_
  have hk := KB.alloc w (.cells (obox p ka kc ia (flen T) ic) 25) hb.size
  have C := hide (aarr_step W M ih T b off ia ic v ys _ hM hf.2 hia hrows hin.2.2.1.2 (hb.trans hk.below) (World.ownsRow.alloc h (.cells (obox p ka kc ia (flen T) ic) 25)) hl)
  obtain ⟨a, cap, rfl⟩ := h.shape
  have HK := hide hk
  have g : decide ((1048576 : Int) < (ys.length : Int)) = false := by simp; omega
  have e1 : (p.kind == 1) = false := by rw [h6]; rfl
  have e2 : (p.kind == 2) = false := by rw [h6]; rfl
  have e3 : (p.kind == 3) = false := by rw [h6]; rfl
  have e4 : (p.kind == 4) = false := by rw [h6]; rfl
  have e5 : (p.kind == 5) = false := by rw [h6]; rfl
  have e6 : (p.kind == 6) = true := by rw [h6]; rfl
  clear h6 hia hrows hk hl hb h hin hf hM ih hlong
  go_enter Tryz.func21, Tryz.ntmps21
  go_wp2_with (go_at_call 34; refine C.out.mono ?_; rintro e wy ⟨v3, zs, rfl, hb3, hs3, hw3⟩; have HF : Hid (AoR W.heap.size w (ys ++ 91 :: (forT T false [] true ++ [93])) (.returned v3) wy) := hide ⟨v3, zs, rfl, hb3, hs3, HK.out.trans hw3⟩; clear hb3 hs3 hw3)
  go_ret
  exact HF.out
set_option maxRecDepth 8000 in
set_option maxHeartbeats 1000000 in
theorem ao_dict (W : World) (M : Nat) (ih : AoIH W M) (p : Pay) (T : BT Pay) (ka : Option Addr) (kc : Nat) (ia : Option Addr) (ic : Nat) (v : Value) (ys : List UInt8) (w : World) (h7 : p.kind = 7) (hM : fsize T ≤ M) (hf : fine p T) (hin : OIn W p T ka kc ia ic) (hb : Below W.heap.size W w) (h : BRow w W.heap.size v ys)
    (hlong : ys.length ≤ 1048576) (hl : ys.length + (forT T true p.keys true).length + 1000004 ≤ 140737488355328) : Calls Tryz.prog 21 #[v, ov p ka kc ia (flen T) ic] w (AoR W.heap.size w (ys ++ 60 :: 60 :: (forT T true p.keys true ++ [62, 62]))) := by
  obtain ⟨b, off, hia, hrows⟩ := hin.at_
  have hk := KB.alloc w (.cells (obox p ka kc ia (flen T) ic) 25) hb.size
  have C := hide (adict_step W M ih p T b off ka kc ia ic v ys _ hM hf.2 (flat_dict hf.1 h7) hin hia hrows (hb.trans hk.below) (World.ownsRow.alloc h (.cells (obox p ka kc ia (flen T) ic) 25)) hl)
  obtain ⟨a, cap, rfl⟩ := h.shape
  have HK := hide hk
  have g : decide ((1048576 : Int) < (ys.length : Int)) = false := by simp; omega
  have e1 : (p.kind == 1) = false := by rw [h7]; rfl
  have e2 : (p.kind == 2) = false := by rw [h7]; rfl
  have e3 : (p.kind == 3) = false := by rw [h7]; rfl
  have e4 : (p.kind == 4) = false := by rw [h7]; rfl
  have e5 : (p.kind == 5) = false := by rw [h7]; rfl
  have e6 : (p.kind == 6) = false := by rw [h7]; rfl
  have e7 : (p.kind == 7) = true := by rw [h7]; rfl
  clear h7 hia hrows hk hl hb h hin hf hM ih hlong
  go_enter Tryz.func21, Tryz.ntmps21
  go_wp2_with (go_at_call 35; refine C.out.mono ?_; rintro e wy ⟨v3, zs, rfl, hb3, hs3, hw3⟩; have HF : Hid (AoR W.heap.size w (ys ++ 60 :: 60 :: (forT T true p.keys true ++ [62, 62])) (.returned v3) wy) := hide ⟨v3, zs, rfl, hb3, hs3, HK.out.trans hw3⟩; clear hb3 hs3 hw3)
  go_ret
  exact HF.out
theorem len_arr (y K C : Nat) (L : List UInt8) (h : y + (91 :: (L ++ [93])).length + C ≤ K) : y + L.length + (C + 2) ≤ K := by
  rw [List.length_cons, List.length_append, List.length_singleton] at h
  omega
theorem len_dict (y K C : Nat) (L : List UInt8) (h : y + (60 :: 60 :: (L ++ [62, 62])).length + C ≤ K) : y + L.length + (C + 4) ≤ K := by
  rw [List.length_cons, List.length_cons, List.length_append, List.length_cons, List.length_singleton] at h
  omega
theorem ao_step (W : World) (hg : D2.Glo W) (M : Nat) (ih : AoIH W M) (p : Pay) (T : BT Pay) (ka : Option Addr) (kc : Nat) (ia : Option Addr) (ic : Nat) (v : Value) (ys : List UInt8) (w : World) (hM : fsize T ≤ M) (hf : fine p T) (hin : OIn W p T ka kc ia ic) (hb : Below W.heap.size W w) (h : BRow w W.heap.size v ys)
    (hl : ys.length + (objT p T).length + 1000000 ≤ 140737488355328) : Calls Tryz.prog 21 #[v, ov p ka kc ia (flen T) ic] w (AoR W.heap.size w (ys ++ objT p T)) := by
  rcases Nat.lt_or_ge 1048576 ys.length with hlong | hlong
  · refine (ao_stop p (flen T) ka kc ia ic v ys W.heap.size w h hb.size hlong (by omega)).mono ?_
    rintro e w' ⟨rfl, h1, h2⟩
    exact ⟨v, ys, rfl, h1, St.stop hlong, h2⟩
  by_cases h6 : p.kind = 6
  · have e0 : objT p T = 91 :: (forT T false [] true ++ [93]) := by unfold objT objV; rw [if_pos h6]
    rw [e0] at hl ⊢
    exact ao_arr W M ih p T ka kc ia ic v ys w h6 hM hf hin hb h hlong (len_arr _ _ 1000000 _ hl)
  by_cases h7 : p.kind = 7
  · have e0 : objT p T = 60 :: 60 :: (forT T true p.keys true ++ [62, 62]) := by unfold objT objV; rw [if_neg h6, if_pos h7]
    rw [e0] at hl ⊢
    exact ao_dict W M ih p T ka kc ia ic v ys w h7 hM hf hin hb h hlong (len_dict _ _ 1000000 _ hl)
  · have e0 : objT p T = atomT p := by unfold objT objV; rw [if_neg h6, if_neg h7]
    rw [e0]
    refine (ao_atom p (flen T) ka kc ia ic v ys W.heap.size w hf.1 h6 h7 h hb.size hlong (hg.below hb) ((Lib.tabBelow_of_tabIs hg.tab).on hb)).mono ?_
    rintro e w' ⟨v', rfl, h1, h2⟩
    exact ⟨v', _, rfl, h1, St.refl _, h2⟩
theorem ao_core (W : World) (hg : D2.Glo W) : ∀ M, AoIH W M
  | 0 => fun _ _ _ _ _ _ _ _ _ h => absurd h (Nat.not_lt_zero _)
  | M + 1 => fun p T ka kc ia ic v ys w hM hf hin hb h hl => ao_step W hg M (ao_core W hg M) p T ka kc ia ic v ys w (by omega) hf hin hb h hl
/- what Print answers -/
def prV (p : Pay) (T : BT Pay) : Value :=
  if decide (0 < goodV p T 0 0) = true then (if (objT p T).length ≤ 1048576 then .tuple #[.string ⟨(objT p T).toArray⟩, .int .i64 0] else .tuple #[.string ⟨#[]⟩, .int .i64 2]) else .tuple #[.string ⟨#[]⟩, .int .i64 50]
set_option maxRecDepth 8000 in
set_option maxHeartbeats 1000000 in
theorem oprint_any (p : Pay) (T : BT Pay) (ka : Option Addr) (kc : Nat) (ia : Option Addr) (ic : Nat) (w : World) (hin : OIn w p T ka kc ia ic) (hgl : D2.Glo w) :
    Calls Tryz.prog 11 #[ov p ka kc ia (flen T) ic] w fun e w' => e = .returned (prV p T) ∧ Below w.heap.size w w' := by
  have HB := hide ((Below.refl w.heap.size w).alloc (Nat.le_refl _) (.cells (obox p ka kc ia (flen T) ic) 25))
  have CG := hide (oGood_any p T ka kc ia ic _ (hin.below HB.out))
  have HS := hide (six_box w p ka kc ia (flen T) ic 25)
  have hz : w.heap.size < (w.alloc (.cells (obox p ka kc ia (flen T) ic) 25)).heap.size := by simp
  unfold prV
  cases hg : decide (0 < goodV p T 0 0)
  · rw [hg] at CG
    rw [if_neg (by simp)]
    clear hin hgl hg
    go_enter Tryz.func11, Tryz.ntmps11
    go_wp2_with fail
    refine CG.out.mono ?_
    rintro e w1 ⟨rfl, h1⟩
    have HB1 := hide (below_t5 HB.out h1)
    clear h1
    go_wp2_with fail
    go_ret2
    exact ⟨rfl, HB1.out⟩
  · rw [hg] at CG
    rw [if_pos rfl]
    obtain ⟨R, hR⟩ : ∃ R, (if (objT p T).length ≤ 1048576 then Value.tuple #[.string ⟨(objT p T).toArray⟩, .int .i64 0] else .tuple #[.string ⟨#[]⟩, .int .i64 2]) = R := ⟨_, rfl⟩
    rw [hR]
    have HRR := hide hR
    clear hR
    have hgf := goodV_fine hg
    have hlen := objT_len hgf.1
    have hlen2 : (objT p T).length + 1000000 ≤ 140737488355328 := by have := hgf.2; omega
    have CA := hide (fun x (hx : Below w.heap.size w x) => ao_core x (hgl.below hx) _ p T ka kc ia ic (.slice none 0 0) [] x (Nat.lt_succ_self _) hgf.1 (hin.below hx) (Below.refl _ _) (BRow.nil _ _) (by simpa using hlen2))
    clear hin hgl hg hgf hlen
    have HLL := hide hlen2
    clear hlen2
    go_enter Tryz.func11, Tryz.ntmps11
    go_wp2_with fail
    refine CG.out.mono ?_
    rintro e w1 ⟨rfl, h1⟩
    have HB1 := hide (below_t5 HB.out h1)
    obtain ⟨s0, s1, s2, s3, s4, s5⟩ := HS.out.below hz h1
    simp only [Nat.zero_add] at s1 s2 s3 s4 s5
    clear h1
    go_wp2_with fail
    refine (CA.out _ HB1.out).mono ?_
    rintro e w2 ⟨v', zs, rfl, hb, hst, hw⟩
    obtain ⟨a, cap, rfl⟩ := hb.shape
    have hcv := BRow.text hb
    have HW := hide (below_t5 HB1.out hw.below)
    simp only [List.nil_append] at hst
    have hzl := hst.le
    have hzm : (zs.length : Int) ≤ 140737488355328 := by have := HLL.out; omega
    by_cases hlong : 1048576 < zs.length
    · have hl2 : ¬ (objT p T).length ≤ 1048576 := by omega
      have hR := HRR.out
      rw [if_neg hl2] at hR
      subst hR
      have g : decide ((1048576 : Int) < (zs.length : Int)) = true := by simp; omega
      clear hb hw s0 s1 s2 s3 s4 s5 hst hzl hl2 hlong hzm HRR HLL CA
      go_wp2_with fail
      go_ret2
      exact ⟨rfl, HW.out⟩
    · obtain rfl : zs = objT p T := by
        rcases hst with h | h
        · exact h
        · exact absurd h.1 hlong
      have hR := HRR.out
      rw [if_pos (by omega)] at hR
      subst hR
      have g : decide ((1048576 : Int) < ((objT p T).length : Int)) = false := by simp; omega
      clear hb hw s0 s1 s2 s3 s4 s5 hst hzl hlong HRR HLL CA
      generalize (objT p T).length = N at hcv g hzm ⊢
      go_wp2_with fail
      go_ret2
      exact ⟨rfl, HW.out⟩
end Go.Proofs.YtalmcdbdibpgkaaGreatDoor
