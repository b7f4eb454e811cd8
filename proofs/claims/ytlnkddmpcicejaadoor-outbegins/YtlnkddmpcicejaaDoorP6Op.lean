/-
  OutMore's plain part: one entry more moves no place; its arguments opened.
-/
import Derived.Test.YtlnkddmpcicejaaDoorQC
import Derived.Test.YtlnkddmpcicejaaDoorQF
namespace Go.Proofs.YtlnkddmpcicejaaDoor
open Go.ChangeShapes Go.WideShapes Go.RowKit Go.Deep
set_option linter.unusedVariables false

theorem layG_app : ∀ (l : List EP) (x : EP) (k : Nat) (F : List UInt8) (zs : List Int) (q q2 : List UInt8 × List Int), layG k l F zs = some q → layG k (l ++ [x]) F zs = some q2 → q2.2 = q.2 ++ [(q.1.length : Int)]
  | [], x, k, F, zs, q, q2, h, h2 => by
    simp only [List.nil_append, layG] at h h2
    cases h
    split at h2
    · cases h2; rfl
    · cases h2
  | y :: l, x, k, F, zs, q, q2, h, h2 => by
    simp only [List.cons_append, layG] at h h2
    split at h
    · rename_i hc
      rw [if_pos hc] at h2
      exact layG_app l x _ _ _ q q2 h h2
    · cases h
theorem layG_lenM : ∀ (l : List EP) (k : Nat) (F : List UInt8) (zs : List Int) (q : List UInt8 × List Int), layG k l F zs = some q → q.2.length = zs.length + l.length
  | [], k, F, zs, q, h => by
    unfold layG at h
    cases h
    simp
  | x :: l, k, F, zs, q, h => by
    unfold layG at h
    split at h
    · have := layG_lenM l _ _ _ q h
      rw [this]
      simp
      omega
    · cases h
theorem lyE_ok {l : List EP} {root : Int} (h : lyE l root = 0) : ∃ q, layG 0 l hdrT [] = some q ∧ lyZ l root = q.2 ++ [(q.1.length : Int)] := by
  unfold lyE at h
  split at h
  · contradiction
  · rename_i hc
    split at h
    · rename_i hs
      unfold lyZ
      rw [if_neg hc]
      unfold layV at hs ⊢
      cases hG : layG 0 l hdrT [] with
      | none => rw [hG] at hs; simp at hs
      | some q =>
        obtain ⟨F, zs⟩ := q
        rw [hG] at hs
        simp only at hs ⊢
        split at hs
        · rename_i h3
          refine ⟨(F, zs), rfl, ?_⟩
          rw [if_pos h3]
        · simp at hs
    · omega
theorem lyE_bad {l : List EP} {root : Int} (h : lyE l root ≠ 0) : lyZ l root = [] := by
  unfold lyE at h
  unfold lyZ
  split at h
  · rename_i hc; rw [if_pos hc]
  · rename_i hc
    rw [if_neg hc]
    split at h
    · exact absurd rfl h
    · rename_i hs
      cases hV : layV l root with
      | none => rfl
      | some q => rw [hV] at hs; simp at hs
theorem lyZ_more {l : List EP} {x : EP} {root : Int} (h : lyE l root = 0) (h2 : lyE (l ++ [x]) root = 0) :
    (lyZ l root).length = l.length + 1 ∧ (lyZ (l ++ [x]) root).length = l.length + 2 ∧ (lyZ (l ++ [x]) root).take (l.length + 1) = lyZ l root := by
  obtain ⟨q, hq, hz⟩ := lyE_ok h
  obtain ⟨q2, hq2, hz2⟩ := lyE_ok h2
  have hl := layG_lenM l 0 _ _ q hq
  have ha := layG_app l x 0 _ _ q q2 hq hq2
  simp at hl
  rw [hz, hz2, ha]
  refine ⟨by simp [hl], by simp [hl], ?_⟩
  rw [List.take_append_of_le_length (by simp [hl])]
  rw [List.take_of_length_le (by simp [hl])]
section
variable {H : Type} {enc : TypeId × Value → H} {W : World} {base : Nat} {sp : Nat → Bool} {held : Bool} {r : Reach} {b0 : Nat} {v : Value} {d : DataW H} {pl : List MemPlace}
set_option maxRecDepth 8000 in
theorem file_len {l : List EP} {ea : Option Addr} {ec : Nat} {root : Int} (h : DataW.Trod enc Tryd.prog W base sp held 24 (fv l ea ec root) d pl) (hw : ∀ k ∈ d.weights Tryd.prog 24, k ≤ reachBytes) : l.length + 1 ≤ 1256584717450 := by
  obtain ⟨fuel, hf⟩ := h
  obtain ⟨xs, m, hm, hx, hlen, hxl, hf⟩ := DataW.trod_struct Tryd.underlying24 hf
  obtain ⟨x0, x1, rfl⟩ := len2 (show xs.length = 2 from hxl)
  have g0 := hf 0 _ rfl
  simp [cells_entries] at g0
  obtain ⟨hd, _⟩ := Prod.mk.inj hx
  have hw3 : ∀ k ∈ DataW.weights Tryd.prog 22 x0.1, k ≤ reachBytes := fun k hk => hw k (by
    rw [hd]
    simp only [List.map_cons, List.map_nil, DataW.weights, Tryd.underlying24, DataW.weightsEach, List.mem_append]
    left; exact hk)
  rcases DataW.trod_slice Tryd.underlying22 g0 with ⟨hcs, _⟩ | ⟨a, len, cap, elems, rest, n', hn', hcs, hx, _, hl, hmx, hel, hei, _, _⟩
  · have hcs : Value.slice ea l.length ec = .slice none 0 0 := List.head_eq_of_cons_eq hcs
    have h0 : l.length = 0 := by injection hcs
    omega
  · have hcs : Value.slice ea l.length ec = .slice (some a) len cap := List.head_eq_of_cons_eq hcs
    have hwt := hw3 ((elems.length + rest.length) * 112) (by rw [hx]; simp only [DataW.weights, Tryd.underlying22, bytes_entry, List.length_map]; exact List.mem_cons_self)
    have h0 : l.length = len := by injection hcs
    simp only [reachBytes] at hwt
    omega
def FileM (W : World) (l : List EP) (ea : Option Addr) (ec : Nat) (root : Int) : Prop := FileIn W l ea ec root ∧ l.length + 1 ≤ 1256584717450
set_option maxRecDepth 8000 in
theorem open_fileM (hv : Value.okWide Tryd.prog W r b0 24 v) (h : DataW.Trod enc Tryd.prog W base sp held 24 v d pl) (hw : ∀ k ∈ d.weights Tryd.prog 24, k ≤ reachBytes) :
    ∃ l ea ec root, v = fv l ea ec root ∧ FileM W l ea ec root := by
  obtain ⟨l, ea, ec, root, rfl, hin⟩ := open_file hv h hw
  exact ⟨l, ea, ec, root, rfl, hin, file_len h hw⟩
abbrev evv (e : EP) (ka : Option Addr) (kc : Nat) (ia : Option Addr) (ic : Nat) : Value := .agg #[.int .i64 e.p.kind, .bool e.p.flag, .int .i64 e.p.num, .string e.p.text, .slice ka e.p.keys.length kc, .slice ia (flen e.T) ic, .bool e.st, .string e.da]
def EntIn (W : World) (e : EP) (ka : Option Addr) (kc : Nat) (ia : Option Addr) (ic : Nat) : Prop := OIn W e.p e.T ka kc ia ic ∧ EOk e
set_option maxRecDepth 8000 in
theorem open_more (hv : Value.okWide Tryd.prog W r b0 41 v) (h : DataW.Trod enc Tryd.prog W base sp held 41 v d pl) (hw : ∀ k ∈ d.weights Tryd.prog 41, k ≤ reachBytes) :
    ∃ e ka kc ia ic, v = evv e ka kc ia ic ∧ EntIn W e ka kc ia ic := by
  simp only [Value.okWide, Tryd.underlying41] at hv
  obtain ⟨cs, rfl, _, _⟩ := hv
  obtain ⟨fuel, hf⟩ := h
  obtain ⟨e, ka, kc, ia, ic, hcs, hin, hok⟩ := open_entry fuel _ _ hf hw
  refine ⟨e, ka, kc, ia, ic, ?_, hin, hok⟩
  have this : cs.toList = [.int .i64 e.p.kind, .bool e.p.flag, .int .i64 e.p.num, .string e.p.text, .slice ka e.p.keys.length kc, .slice ia (flen e.T) ic, .bool e.st, .string e.da] := hcs
  cases cs
  simp only at this
  subst this
  rfl
end
end Go.Proofs.YtlnkddmpcicejaaDoor
