/-
  What the landed areKeys answers: the set of the keys that were seen.
-/
import Derived.Test.YtcgoklacjniemaaGreatDoorO5Sm
import Derived.Maps.OwnSet
import Derived.StringKeys
namespace Go.Proofs.YtcgoklacjniemaaGreatDoor
open Go.RowKit Go.Deep Go.Maps

theorem law9 : Keyed Tryz.prog 9 := string_keyed Tryz.underlying9
theorem zero95 (w : World) : (zeroValue 95).run Tryz.prog w = .ok (.agg #[]) w := by kernel_rfl
def Sk (l : List ByteArray) : DataW Unit := setOf (.agg []) (l.map fun s => Lit.string s.data.toList)
theorem Sk_nil : Sk [] = .map [] := rfl
theorem Sk_snoc (l : List ByteArray) (s : ByteArray) : Sk (l ++ [s]) = (Sk l).put (.string s.data.toList) (.agg []) := by
  unfold Sk
  rw [List.map_append, List.map_cons, List.map_nil, setOf_snoc]
theorem has_Sk (l : List ByteArray) (s : ByteArray) : Maps.has (Sk l) (.string s.data.toList) = decide (s.data.toList ∈ l.map fun t => t.data.toList) := by
  unfold Sk
  rw [has_setOf _ _ _ (fun x hx => by obtain ⟨t, _, rfl⟩ := List.mem_map.1 hx; trivial)]
  rw [List.any_map, Bool.eq_iff_iff, List.any_eq_true, decide_eq_true_iff, List.mem_map]
  constructor
  · rintro ⟨t, h1, h2⟩
    have := WideAt.sameKey_eq (a := .string t.data.toList) (b := .string s.data.toList) h2
    simp at this
    exact ⟨t, h1, by rw [this]⟩
  · rintro ⟨t, h1, h2⟩
    exact ⟨t, h1, by simp [Lit.sameKey, h2]⟩
theorem make_any (n : Int) (w : World) : (Instr.makeMap 94 (some (.int .i64 n))).run Tryz.prog w = .ok (.map (some w.heap.size)) (w.alloc (.map #[] 0)) := by
  simp [Instr.makeMap, run_underlying Tryz.underlying94, asInt, asIntOf]
theorem keysB_step (l : List ByteArray) (i : Nat) (h : i < l.length) (seen : List (List UInt8)) :
    keysB seen (l.drop i) = (nameB (l.getD i ByteArray.empty).data.toList && decide ((l.getD i ByteArray.empty).data.toList ∉ seen) && keysB (seen ++ [(l.getD i ByteArray.empty).data.toList]) (l.drop (i + 1))) := by
  rw [List.drop_eq_getElem_cons h, keysB, List.getD_eq_getElem?_getD, List.getElem?_eq_getElem h]
  rfl
theorem take_snoc (l : List ByteArray) (i : Nat) (h : i < l.length) : l.take (i + 1) = l.take i ++ [l.getD i ByteArray.empty] := by
  rw [List.take_add_one, List.getElem?_eq_getElem h, List.getD_eq_getElem?_getD, List.getElem?_eq_getElem h]
  rfl
set_option maxRecDepth 8000 in
set_option maxHeartbeats 4000000 in
theorem areKeys_any (ka : Option Addr) (ss : List ByteArray) (kc : Nat) (w : World) (hS : Strs w ka ss) (hn : ss.length ≤ 8796093022208) (hsz : ∀ s ∈ ss, s.size ≤ 9223372036854775807) :
    Calls Tryz.prog 68 #[.slice ka ss.length kc] w fun e w' => e = .returned (.bool (keysB [] ss)) ∧ Below w.heap.size w w' := by
  have hmm := make_any
  obtain ⟨R, hR⟩ : ∃ R, keysB [] ss = R := ⟨_, rfl⟩
  rw [hR]
  have HR := hide hR
  have HS := hide hS
  have HZ := hide hsz
  have hn' : (ss.length : Int) ≤ 9223372036854775807 := by omega
  have HN := hide hn
  clear hR hS hsz hn
  go_enter Tryz.func68, Tryz.ntmps68
  go_wp2_with fail
  go_loopw [13] (fun vi wr => ∃ i : Nat, vi = .int .i64 i ∧ Hid (i ≤ ss.length ∧ keysB ((ss.take i).map fun t => t.data.toList) (ss.drop i) = R ∧ wr.ownsMap Tryz.prog 9 unitElem w.heap.size i (Sk (ss.take i)) ∧ Below w.heap.size w wr ∧ w.heap.size + 1 ≤ wr.heap.size)) (fun vi _ => ss.length - (intOf vi).toNat)
  case atStart => exact ⟨0, rfl, hide ⟨Nat.zero_le _, by simpa using HR.out, World.ownsMap_made _ _ _ _, (Below.refl _ _).alloc (Nat.le_refl _) _, by simp⟩⟩
  case round =>
    clear HR
    obtain ⟨i, rfl, HV⟩ := hrel
    obtain ⟨hi, hk, hown, hbel, hws⟩ := HV.out
    clear HV
    have HB := hide hbel
    have HO := hide hown
    have hi0 : (0 : Int) ≤ (i : Int) := by omega
    by_cases hlt : i < ss.length
    case neg =>
      obtain rfl : R = true := by rw [← hk, List.drop_of_length_le (by omega)]; rfl
      clear hk hown hbel hi
      go_wp2_with fail
      go_ret
      exact ⟨rfl, HB.out⟩
    case pos =>
      obtain ⟨b, off, rfl, hb, hc⟩ := HS.out.get5 hlt
      have c1 := (hbel.cell (p := ⟨b, off + i, none⟩) hb).trans hc
      have st := keysB_step ss i hlt ((ss.take i).map fun t => t.data.toList)
      have hta := take_snoc ss i hlt
      have hhas := has_Sk (ss.take i) (ss.getD i ByteArray.empty)
      have hkey : keyOf Tryz.prog 9 (.string (ss.getD i ByteArray.empty)) = some (.string (ss.getD i ByteArray.empty).data.toList) := WideMaps.keyOf_string_mk Tryz.underlying9 (HZ.out _ (by rw [List.getD_eq_getElem?_getD, List.getElem?_eq_getElem hlt]; exact List.getElem_mem hlt))
      generalize ss.getD i ByteArray.empty = x at c1 st hta hhas hkey
      have HC := hide (fun w => oname_any x w)
      have HKEY := hide hkey
      have HHAS := hide hhas
      have HTA := hide hta
      rw [hk] at st
      generalize hD : decide (x.data.toList ∈ (ss.take i).map fun t => t.data.toList) = D at hhas
      have hD' : decide (x.data.toList ∉ (ss.take i).map fun t => t.data.toList) = !D := by rw [← hD]; simp
      rw [hD'] at st
      generalize nameB x.data.toList = NB at st HC
      have HST := hide st
      have HD := hide hhas
      clear hc hbel hi hk st hta hkey hD hD' hown HHAS hhas
      cases hhd : Maps.has (Sk (ss.take i)) (.string x.data.toList)
      · have hDf : D = false := by rw [← HD.out]; exact hhd
        subst hDf
        cases NB
        · obtain rfl : R = false := by rw [HST.out]; simp
          go_wp2_with (first
            | (at_lookup; refine wpList_lookup_own_unit _ rfl _ _ 94 rfl 9 95 law9 Tryz.underlying94 (zero95 _) w.heap.size i _ rfl HO.out _ _ rfl HKEY.out ?_; rw [hhd])
            | (go_at_call 67; refine (HC.out _).mono ?_; rintro e w1 ⟨rfl, rfl⟩))
          go_ret
          exact ⟨rfl, HB.out.alloc HB.out.size _⟩
        · have hst : R = keysB ((ss.take (i + 1)).map fun t => t.data.toList) (ss.drop (i + 1)) := by
            rw [HST.out, HTA.out, List.map_append]; simp
          have HST2 := hide hst
          clear hst
          go_wp2_with (first
            | (at_lookup; refine wpList_lookup_own_unit _ rfl _ _ 94 rfl 9 95 law9 Tryz.underlying94 (zero95 _) w.heap.size i _ rfl HO.out _ _ rfl HKEY.out ?_; rw [hhd])
            | (go_at_call 67; refine (HC.out _).mono ?_; rintro e w1 ⟨rfl, rfl⟩)
            | (at_mapUpdate; refine wpList_mapUpdate_own _ rfl _ _ _ 94 rfl 9 95 law9 Tryz.underlying94 (unitElem (H := Unit)) w.heap.size i _ rfl (HO.out.alloc _) (by have := HN.out; unfold maxLen; omega) _ _ _ rfl rfl HKEY.out _ [] unitElem_mk ?_; intro w1 hown1 hgrow1))
          go_roundw
          case rel => exact ⟨i + 1, by go_num, hide ⟨by omega, HST2.out.symm, by rw [HTA.out, Sk_snoc]; exact hown1, (HB.out.alloc HB.out.size _).grown hgrow1 (by have := HB.out.size; simp; omega) (fun j hj => by cases hj; exact Nat.le_refl _), by have := hgrow1.size; simp at this; omega⟩⟩
          case measure => simp [intOf]; omega
      · have hDt : D = true := by rw [← HD.out]; exact hhd
        subst hDt
        obtain rfl : R = false := by rw [HST.out]; simp
        go_wp2_with (first
          | (at_lookup; refine wpList_lookup_own_unit _ rfl _ _ 94 rfl 9 95 law9 Tryz.underlying94 (zero95 _) w.heap.size i _ rfl HO.out _ _ rfl HKEY.out ?_; rw [hhd])
          | (go_at_call 67; refine (HC.out _).mono ?_; rintro e w1 ⟨rfl, rfl⟩))
        go_ret
        exact ⟨rfl, HB.out.alloc HB.out.size _⟩
end Go.Proofs.YtcgoklacjniemaaGreatDoor
