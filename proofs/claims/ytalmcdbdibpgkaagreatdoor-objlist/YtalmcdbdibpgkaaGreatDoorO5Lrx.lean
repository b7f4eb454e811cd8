/-
  The law's own large, of an object that is good but for its number and depth: where it is not too large, its text is not long.
-/
import Derived.Test.YtalmcdbdibpgkaaGreatDoorO5Fp
import Derived.Test.YtalmcdbdibpgkaaGreatDoorBC
namespace Go.Proofs.YtalmcdbdibpgkaaGreatDoor
open Go.RowKit Go.Deep
set_option linter.unusedVariables false

/- the texts beside one another -/
def sumT : BT Pay → Nat
  | .nil => 0
  | .node _ _ p T N => (objT p T).length + sumT N
def LgR (p : Pay) (T : BT Pay) (n r : Int) : Prop := r < 0 ∨ (r ≤ 2000 ∧ n ≤ r ∧ ((objT p T).length : Int) + 300 * n ≤ 300 * r)
theorem forT_sum : ∀ (T : BT Pay) (ks : List ByteArray) (first : Bool), (forT T false ks first).length ≤ sumT T + flen T
  | .nil, _, _ => by simp [forT]
  | .node b o p T N, ks, first => by
    have := forT_sum N ks.tail false
    rw [forT_node]
    simp only [Bool.false_eq_true, if_false, List.nil_append, List.length_append, sumT, flen]
    split <;> simp <;> omega
theorem forT_sumd : ∀ (T : BT Pay) (ks : List ByteArray) (first : Bool), (∀ s ∈ ks, s.size ≤ 127) → (forT T true ks first).length ≤ sumT T + 384 * flen T
  | .nil, _, _, _ => by simp [forT]
  | .node b o p T N, ks, first, h => by
    have h1 := forT_sumd N ks.tail false (fun s hs => h s (List.mem_of_mem_tail hs))
    have h2 := nameT_len (ks.headD ByteArray.empty).data.toList
    have h3 : (ks.headD ByteArray.empty).data.toList.length ≤ 127 := by
      rw [← Lib.size_eq]
      cases ks with
      | nil => simp
      | cons k ks => exact h k (by simp)
    rw [forT_node]
    simp only [if_true, List.length_append, sumT, flen, List.length_cons, List.length_nil]
    split <;> simp only [List.length_cons, List.length_nil] <;> omega
theorem objT_sum {p : Pay} {T : BT Pay} (hf : fine p T) : (objT p T).length ≤ 300 * (1 + p.keys.length + flen T + p.text.size / 100) + sumT T := by
  obtain ⟨⟨_, _, _, _, a5⟩, hk⟩ := flat_pay hf.1
  unfold objT objV
  by_cases h6 : p.kind = 6
  · rw [if_pos h6]
    have := forT_sum T [] true
    simp only [List.length_cons, List.length_append, List.length_nil]
    omega
  by_cases h7 : p.kind = 7
  · rw [if_neg h6, if_pos h7]
    obtain ⟨d1, d2⟩ := flat_dict hf.1 h7
    have := forT_sumd T p.keys true d2
    simp only [List.length_cons, List.length_append, List.length_nil]
    omega
  rw [if_neg h6, if_neg h7]
  rcases hk with k | k | ⟨k, kb⟩ | ⟨k, kb, km⟩ | ⟨k, kn⟩ | k | k | ⟨k, _, _⟩ | ⟨k, kb⟩
  · rw [show atomT p = [110, 117, 108, 108] by unfold atomT; rw [k]; rfl]
    simp only [List.length_cons, List.length_nil]; omega
  · rw [show atomT p = boolT p.flag by unfold atomT; rw [k]; rfl]
    have : (boolT p.flag).length ≤ 5 := by cases p.flag <;> decide
    omega
  · rw [show atomT p = intT p.num by unfold atomT; rw [k]; rfl]
    have := intT_len p.num kb
    omega
  · rw [show atomT p = D2.textL p.num by unfold atomT; rw [k]; rfl]
    have := realT_len p.num kb
    omega
  · rw [show atomT p = nameT p.text.data.toList by unfold atomT; rw [k]; rfl]
    have h1 := flat_name hf.1 k
    have h2 := nameT_len p.text.data.toList
    rw [← Lib.size_eq] at h2
    omega
  · rw [show atomT p = strT p.text.data.toList by unfold atomT; rw [k]; rfl]
    have h2 := strT_len p.text.data.toList
    rw [← Lib.size_eq] at h2
    omega
  · exact absurd k h6
  · exact absurd k h7
  · rw [show atomT p = intT p.num ++ [32, 48, 32, 82] by unfold atomT; rw [k]; rfl]
    have := intT_len p.num (by omega)
    simp only [List.length_append, List.length_cons, List.length_nil]
    omega
set_option maxHeartbeats 4000000 in
theorem largex_step (M : Nat)
    (ih : ∀ (p : Pay) (T : BT Pay) (ka : Option Addr) (kc : Nat) (ia : Option Addr) (ic : Nat) (nest n : Int) (w : World), fsize T < M → fine p T → 0 ≤ n → n ≤ 10000 → OIn w p T ka kc ia ic →
      Calls Tryz.prog 20 #[ov p ka kc ia (flen T) ic, .int .i64 nest, .int .i64 n] w fun e w' => (∃ r : Int, e = .returned (.int .i64 r) ∧ LgR p T n r) ∧ Below w.heap.size w w')
    (p : Pay) (T : BT Pay) (ka : Option Addr) (kc : Nat) (ia : Option Addr) (ic : Nat) (nest n : Int) (w : World) (hM : fsize T ≤ M) (hf : fine p T) (hn0 : 0 ≤ n) (hn1 : n ≤ 10000) (hin : OIn w p T ka kc ia ic) :
      Calls Tryz.prog 20 #[ov p ka kc ia (flen T) ic, .int .i64 nest, .int .i64 n] w fun e w' => (∃ r : Int, e = .returned (.int .i64 r) ∧ LgR p T n r) ∧ Below w.heap.size w w' := by
  have IH := hide ih
  have HI := hide hin
  have HM := hide hM
  have HF := hide hf
  have hl1 : (flen T : Int) ≤ 1599289640401 := by have h := hin.2.2.1; omega
  have hl0 : (0 : Int) ≤ (flen T : Int) := by omega
  have hl3 : (p.keys.length : Int) ≤ 8796093022208 := by have h := hin.2.1.2.1; omega
  have ht : (p.text.size : Int) ≤ 9223372036854775807 := by have := hin.1.2.2.1; omega
  have hS := six_box w p ka kc ia (flen T) ic 25
  have HS := hide hS
  clear ih hin hM hS hf
  go_enter Tryz.func20, Tryz.ntmps20
  go_wp2_with fail
  any_goals (go_ret; exact ⟨⟨_, rfl, Or.inl (by omega)⟩, (Below.refl _ _).alloc (Nat.le_refl _) _⟩)
  have HB := hide ((Below.refl w.heap.size w).alloc (Nat.le_refl _) (.cells #[.int .i64 p.kind, .bool p.flag, .int .i64 p.num, .string p.text, .slice ka p.keys.length kc, .slice ia (flen T) ic] 25))
  have hsz : w.heap.size < (w.alloc (.cells #[.int .i64 p.kind, .bool p.flag, .int .i64 p.num, .string p.text, .slice ka p.keys.length kc, .slice ia (flen T) ic] 25)).heap.size := by simp
  rename_i hx1 hx2 _ _
  clear hx2
  obtain ⟨n0, hn0e⟩ : ∃ n0, n + 1 + (p.keys.length : Int) + (flen T : Int) + (p.text.size : Int) / 100 = n0 := ⟨_, rfl⟩
  rw [hn0e] at hx1 ⊢
  have hk127 : ∀ s ∈ p.keys, s.size ≤ 127 := by
    obtain ⟨⟨_, _, _, a4, _⟩, _⟩ := flat_pay HF.out.1
    rcases a4 with h | h
    · exact (flat_dict HF.out.1 h).2
    · rw [h]; intro s hs; cases hs
  have hkn : flen T = 0 → p.keys.length = 0 := fun h => by
    obtain ⟨⟨_, _, _, a4, _⟩, _⟩ := flat_pay HF.out.1
    rcases a4 with h' | h'
    · rw [(flat_dict HF.out.1 h').1]; exact h
    · rw [h']; rfl
  have HKN := hide hkn
  have HK127 := hide hk127
  have HX := hide (show n + 1 + (p.keys.length : Int) + (flen T : Int) + (p.text.size : Int) / 100 = n0 ∧ n0 ≤ 2000 ∧ 0 ≤ n0 ∧ (p.keys.length : Int) ≤ 2000 ∧ n ≤ n0 by omega)
  have hk2 : (p.keys.length : Int) ≤ 2000 := HX.out.2.2.2.1
  clear hx1 hn0e hkn hk127
  go_loopw [7, 8] (fun vn vi wr => ∃ (m : Int) (i : Nat), vn = .int .i64 m ∧ vi = .int .i64 i ∧ Hid (i ≤ p.keys.length ∧ Below w.heap.size w wr ∧ Six wr w.heap.size 0 p ka kc ia (flen T) ic ∧ w.heap.size < wr.heap.size ∧ n0 ≤ m ∧ m ≤ n0 + 2 * (i : Int))) (fun _ vi _ => p.keys.length - (intOf vi).toNat)
  case atStart => exact ⟨_, 0, rfl, rfl, hide ⟨Nat.zero_le _, HB.out, HS.out, hsz, Int.le_refl _, by omega⟩⟩
  case round =>
    clear HB HS hsz
    obtain ⟨m, i, rfl, rfl, HV⟩ := hrel
    obtain ⟨hi, hbel, h6, hsz, hm0, hm1⟩ := HV.out
    clear HV
    have HB := hide hbel
    have H6 := hide h6
    have HMM := hide (show n0 ≤ m ∧ m ≤ n0 + 2 * (i : Int) from ⟨hm0, hm1⟩)
    have hmA : 0 ≤ m := by have := HX.out; omega
    have hmB : m ≤ 6000 := by have := HX.out; omega
    clear hm0 hm1
    obtain ⟨s0, s1, s2, s3, s4, s5⟩ := h6
    simp only [Nat.zero_add] at s1 s2 s3 s4 s5
    have hi0 : (0 : Int) ≤ (i : Int) := by omega
    by_cases hlt : i < p.keys.length
    case pos =>
      obtain ⟨b, off, rfl, hb, hc⟩ := HI.out.2.1.1.get5 hlt
      have c1 := (hbel.cell (p := ⟨b, off + i, none⟩) hb).trans hc
      have hlt1 : (i : Int) < (p.keys.length : Int) := by omega
      have hx : ((p.keys.getD i ByteArray.empty).size : Int) ≤ 127 := by
        have := HK127.out (p.keys.getD i ByteArray.empty) (by rw [List.getD_eq_getElem?_getD, List.getElem?_eq_getElem hlt]; exact List.getElem_mem hlt)
        omega
      generalize p.keys.getD i ByteArray.empty = x at c1 hx
      have HLT := hide hlt
      clear hc hbel hlt hi
      go_wp2_with fail
      go_roundw
      case rel => exact ⟨_, i + 1, rfl, by go_num, hide ⟨HLT.out, HB.out, H6.out, hsz, by have := HMM.out; omega, by have := HMM.out; omega⟩⟩
      case measure => have := HLT.out; simp [intOf]; omega
    case neg =>
      have hst0 : flen T = 0 → m = n0 := fun h => by
        have h1 := HKN.out h
        have h2 := HMM.out
        omega
      clear hbel hi
      go_wp2_with fail
      clear s0 s1 s2 s3 s4 s5
      obtain ⟨b, off, hia, hrows⟩ := OIn.at_ HI.out
      have HR := hide hrows
      have HIA := hide hia
      have HST := hide hst0
      clear hrows hia hst0
      go_loopw [7, 9] (fun vn vi wr => ∃ (m : Int) (k : Nat) (U : BT Pay), vn = .int .i64 m ∧ vi = .int .i64 k ∧ Hid (flen U + k = flen T ∧ fsize U ≤ fsize T ∧ Rows w U b (off + k * 6) ∧ Below w.heap.size w wr ∧ Six wr w.heap.size 0 p ka kc ia (flen T) ic ∧ w.heap.size < wr.heap.size ∧ fineF U ∧
        (m < 0 ∨ (0 ≤ m ∧ 300 * n0 + (sumT T : Int) ≤ 300 * m + (sumT U : Int) ∧ n0 ≤ m ∧ m ≤ 6000 ∧ ((k = 0 ∧ (flen T = 0 → m = n0)) ∨ m ≤ 2000))))) (fun _ vi _ => flen T - (intOf vi).toNat)
      case atStart => exact ⟨m, 0, T, rfl, rfl, hide ⟨by omega, Nat.le_refl _, by simpa using HR.out, HB.out, H6.out, hsz, HF.out.2, Or.inr ⟨hmA, by have := HMM.out; omega, HMM.out.1, hmB, Or.inl ⟨rfl, HST.out⟩⟩⟩⟩
      case round =>
        clear HB H6 hsz HR HST HMM hmA hmB
        obtain ⟨m, k, U, rfl, rfl, HV⟩ := hrel
        obtain ⟨hk, hu, hrow, hbel, h6, hsz, hfu, hrl⟩ := HV.out
        clear HV
        have HB := hide hbel
        have H6 := hide h6
        obtain ⟨s0, s1, s2, s3, s4, s5⟩ := h6
        simp only [Nat.zero_add] at s1 s2 s3 s4 s5
        cases U with
        | nil =>
          have hk' : (flen T : Int) ≤ (k : Int) := by simp [flen] at hk; omega
          have hres : LgR p T n m := by
            rcases hrl with h | ⟨h0, h1, h2, h3, h4⟩
            · exact Or.inl h
            · have h5 := objT_sum HF.out
              have h6 := HX.out
              simp only [sumT] at h1
              refine Or.inr ⟨?_, by omega, by omega⟩
              rcases h4 with ⟨hk0, h4⟩ | h4
              · have := h4 (by subst hk0; simpa [flen] using hk.symm); omega
              · exact h4
          have HRES := hide hres
          have hm : 0 ≤ m ∨ m < 0 := by omega
          clear hk hrow hbel hrl hres hm
          go_wp2_with fail
          go_ret
          exact ⟨⟨_, rfl, HRES.out⟩, HB.out⟩
        | node b0 o0 q TT N =>
          obtain ⟨⟨ka', kc', ia', ic', g6, gin⟩, grest⟩ := rows_node.1 hrow
          obtain rfl | ⟨rfl, hbz⟩ := HIA.out
          · simp [flen] at hk
          have hlt : (k : Int) < (flen T : Int) := by simp [flen] at hk; omega
          have hk0 : (0 : Int) ≤ (k : Int) := by omega
          have hst : fsize TT < M := by have := HM.out; simp [fsize] at hu; omega
          obtain ⟨c0, c1, c2, c3, c4, c5⟩ := g6.below hbz hbel
          have HK := hide (show flen N + (k + 1) = flen T ∧ fsize N ≤ fsize T by simp [flen, fsize] at hk hu; omega)
          have HRR := hide grest
          have HFU := hide hfu
          rcases hrl with hm | ⟨hm, hm1, hm2, hm3, hm4⟩
          · clear hk hu hrow hbel g6 gin grest hfu
            go_wp2_with fail
            go_ret
            exact ⟨⟨_, rfl, Or.inl hm⟩, HB.out⟩
          · have CI := fun nest => IH.out q TT ka' kc' ia' ic' nest m wr hst hfu.1 hm (by omega) (gin.below hbel)
            have CI := hide CI
            have HMM := hide (show 300 * n0 + (sumT T : Int) ≤ 300 * m + (((objT q TT).length : Int) + (sumT N : Int)) ∧ n0 ≤ m by simp only [sumT] at hm1; omega)
            clear hk hu hrow hbel g6 gin grest hfu hm1 hm2 hm3 hm4
            go_wp2_with (go_at_call 20; refine (CI.out _).mono ?_; rintro e wy ⟨⟨r, rfl, hr⟩, hy⟩)
            go_roundw
            case rel =>
              refine ⟨r, k + 1, N, rfl, by go_num, hide ⟨HK.out.1, HK.out.2, by have := HRR.out; rw [show off + (k + 1) * 6 = off + k * 6 + 6 by omega]; exact this, below_t5 HB.out hy, H6.out.below hsz hy, Nat.lt_of_lt_of_le hsz hy.size, HFU.out.2, ?_⟩⟩
              rcases hr with hr | ⟨hr1, hr2, hr3⟩
              · exact Or.inl hr
              · have := HMM.out
                exact Or.inr ⟨by omega, by omega, by omega, by omega, Or.inr hr1⟩
            case measure => simp [intOf]; omega
theorem largex_core : ∀ (M : Nat) (p : Pay) (T : BT Pay) (ka : Option Addr) (kc : Nat) (ia : Option Addr) (ic : Nat) (nest n : Int) (w : World), fsize T < M → fine p T → 0 ≤ n → n ≤ 10000 → OIn w p T ka kc ia ic →
      Calls Tryz.prog 20 #[ov p ka kc ia (flen T) ic, .int .i64 nest, .int .i64 n] w fun e w' => (∃ r : Int, e = .returned (.int .i64 r) ∧ LgR p T n r) ∧ Below w.heap.size w w'
  | 0 => fun _ _ _ _ _ _ _ _ _ h => absurd h (Nat.not_lt_zero _)
  | M + 1 => fun p T ka kc ia ic nest n w hM hf h0 h1 hin => largex_step M (largex_core M) p T ka kc ia ic nest n w (by omega) hf h0 h1 hin
theorem largex_fine (p : Pay) (T : BT Pay) (ka : Option Addr) (kc : Nat) (ia : Option Addr) (ic : Nat) (w : World) (hf : fine p T) (hin : OIn w p T ka kc ia ic) :
    Calls Tryz.prog 8 #[ov p ka kc ia (flen T) ic] w fun e w' => (∃ r : Bool, e = .returned (.bool r) ∧ (r = false → (objT p T).length ≤ 600000)) ∧ Below w.heap.size w w' := by
  have C := hide (fun nest w' h => largex_core (fsize T + 1) p T ka kc ia ic nest 0 w' (Nat.lt_succ_self _) hf (by omega) (by omega) (OIn.below (w := w) (w' := w') h hin))
  clear hin hf
  go_enter Tryz.func8, Tryz.ntmps8
  go_wp2_with (go_at_call 20; refine (C.out _ _ ((Below.refl _ _).alloc (Nat.le_refl _) _)).mono ?_; rintro e wy ⟨⟨r, rfl, hr⟩, hy⟩)
  all_goals
    go_ret
    refine ⟨⟨_, rfl, fun h => ?_⟩, below_t5 ((Below.refl _ _).alloc (Nat.le_refl _) _) hy⟩
    unfold LgR at hr
    first | omega | (simp at h; omega)
theorem largex_any (p : Pay) (T : BT Pay) (ka : Option Addr) (kc : Nat) (ia : Option Addr) (ic : Nat) (w : World) (hin : OIn w p T ka kc ia ic) :
    Calls Tryz.prog 8 #[ov p ka kc ia (flen T) ic] w fun e w' => (∃ r : Bool, e = .returned (.bool r) ∧ (fine p T → r = false → (objT p T).length ≤ 600000)) ∧ Below w.heap.size w w' := by
  by_cases hf : fine p T
  · exact (largex_fine p T ka kc ia ic w hf hin).mono fun e w' ⟨⟨r, h1, h2⟩, h3⟩ => ⟨⟨r, h1, fun _ => h2⟩, h3⟩
  · exact (large_any p T ka kc ia ic w hin).mono fun e w' ⟨⟨r, h1⟩, h3⟩ => ⟨⟨r, h1, fun h => absurd h hf⟩, h3⟩
end Go.Proofs.YtalmcdbdibpgkaaGreatDoor
