/-
  What the reference's Tag, Four, Pad and owned answer, of any texts.
-/
import Derived.Test.YtgmmhlpdkoiheaaDoorS8Ra
import Derived.Laws.Concat
namespace Go.Proofs.YtgmmhlpdkoiheaaDoor
open Go.RowKit Go.Deep
set_option linter.unusedVariables false

abbrev zS : ByteArray := ⟨#[0]⟩
theorem zS_app (s : ByteArray) : (s ++ zS).size = s.size + 1 := by rw [ByteArray.size_append]; rfl
theorem zS_list (s : ByteArray) : (s ++ zS).data.toList = s.data.toList ++ [0] := by rw [ByteArray.data_append, Array.toList_append]
set_option maxHeartbeats 1000000 in
theorem rpad_any (s : ByteArray) (w : World) (hs : s.size ≤ 1048576) :
    Calls Tryd.prog 12 #[.string s] w fun e w' => ∃ p : ByteArray, e = .returned (.string p) ∧ p.data.toList = padT s.data.toList ∧ w' = w := by
  have hs' : (s.size : Int) ≤ 1048576 := by omega
  have hl : s.data.toList.length = s.size := (Lib.size_eq s).symm
  obtain ⟨p1, h1⟩ : ∃ p, s ++ zS = p := ⟨_, rfl⟩
  obtain ⟨p2, h2⟩ : ∃ p, p1 ++ zS = p := ⟨_, rfl⟩
  obtain ⟨p3, h3⟩ : ∃ p, p2 ++ zS = p := ⟨_, rfl⟩
  have z1 : p1.size = s.size + 1 := by rw [← h1, zS_app]
  have z2 : p2.size = s.size + 2 := by rw [← h2, zS_app, z1]
  have z3 : p3.size = s.size + 3 := by rw [← h3, zS_app, z2]
  have l1 : p1.data.toList = s.data.toList ++ [0] := by rw [← h1, zS_list]
  have l2 : p2.data.toList = s.data.toList ++ [0, 0] := by rw [← h2, zS_list, l1]; simp
  have l3 : p3.data.toList = s.data.toList ++ [0, 0, 0] := by rw [← h3, zS_list, l2]; simp
  have b1 : (p1.size : Int) ≤ 1048586 := by omega
  have b2 : (p2.size : Int) ≤ 1048586 := by omega
  have b3 : (p3.size : Int) ≤ 1048586 := by omega
  have hr : s.size % 4 = 0 ∨ s.size % 4 = 1 ∨ s.size % 4 = 2 ∨ s.size % 4 = 3 := by omega
  rcases hr with hr | hr | hr | hr
  · have e : s.data.toList = padT s.data.toList := by unfold padT; rw [hl, hr]; simp
    have m0 : (s.size : Int) % 4 = 0 := by omega
    have E := hide e
    clear z1 z2 z3 l1 l2 l3 h1 h2 h3 hl hr e
    go_enter Tryd.func12, Tryd.ntmps12
    go_wp2_with fail
    refine wp_loop_rounds 1 ?_
    rw [rounds_succ]; go_wp2_with fail
    go_ret
    exact ⟨_, rfl, E.out, rfl⟩
  · have e : p3.data.toList = padT s.data.toList := by rw [l3]; unfold padT; rw [hl, hr]; rfl
    have m0 : (s.size : Int) % 4 = 1 := by omega
    have m1 : (p1.size : Int) % 4 = 2 := by omega
    have m2 : (p2.size : Int) % 4 = 3 := by omega
    have m3 : (p3.size : Int) % 4 = 0 := by omega
    have E := hide e
    clear z1 z2 z3 l1 l2 l3 hl hr e
    go_enter Tryd.func12, Tryd.ntmps12
    go_wp2_with fail
    refine wp_loop_rounds 4 ?_
    rw [rounds_succ]; go_wp2_with fail
    rw [rounds_succ]; go_wp2_with fail
    rw [rounds_succ]; go_wp2_with fail
    rw [rounds_succ]; go_wp2_with fail
    go_ret
    exact ⟨_, rfl, E.out, rfl⟩
  · have e : p2.data.toList = padT s.data.toList := by rw [l2]; unfold padT; rw [hl, hr]; rfl
    have m0 : (s.size : Int) % 4 = 2 := by omega
    have m1 : (p1.size : Int) % 4 = 3 := by omega
    have m2 : (p2.size : Int) % 4 = 0 := by omega
    have E := hide e
    clear z1 z2 z3 l1 l2 l3 hl hr e
    go_enter Tryd.func12, Tryd.ntmps12
    go_wp2_with fail
    refine wp_loop_rounds 3 ?_
    rw [rounds_succ]; go_wp2_with fail
    rw [rounds_succ]; go_wp2_with fail
    rw [rounds_succ]; go_wp2_with fail
    go_ret
    exact ⟨_, rfl, E.out, rfl⟩
  · have e : p1.data.toList = padT s.data.toList := by rw [l1]; unfold padT; rw [hl, hr]; rfl
    have m0 : (s.size : Int) % 4 = 3 := by omega
    have m1 : (p1.size : Int) % 4 = 0 := by omega
    have E := hide e
    clear z1 z2 z3 l1 l2 l3 hl hr e
    go_enter Tryd.func12, Tryd.ntmps12
    go_wp2_with fail
    refine wp_loop_rounds 2 ?_
    rw [rounds_succ]; go_wp2_with fail
    rw [rounds_succ]; go_wp2_with fail
    go_ret
    exact ⟨_, rfl, E.out, rfl⟩

def tagB (t : ByteArray) : Bool := match t.data.toList with
  | [b0, b1, b2, b3] => gdB b0 && (gdB b1 && (gdB b2 && gdB b3))
  | _ => false
theorem four_of {t : ByteArray} (h : t.size = 4) : ∃ b0 b1 b2 b3, t = tgS b0 b1 b2 b3 := by
  cases t with | mk d => cases d with | mk l =>
    have hl : l.length = 4 := h
    match l, hl with
    | [b0, b1, b2, b3], _ => exact ⟨b0, b1, b2, b3, rfl⟩
theorem tagB_no {t : ByteArray} (h : t.size ≠ 4) : tagB t = false := by
  unfold tagB
  cases t with | mk d => cases d with | mk l =>
    have hl : l.length ≠ 4 := h
    match l, hl with
    | [], _ => rfl
    | [_], _ => rfl
    | [_, _], _ => rfl
    | [_, _, _], _ => rfl
    | _ :: _ :: _ :: _ :: _ :: _, _ => rfl
theorem rtag_all (t : ByteArray) (w : World) (ht : t.size ≤ 9223372036854775807) :
    Calls Tryd.prog 31 #[.string t] w fun e w' => e = .returned (.bool (tagB t)) ∧ w' = w := by
  by_cases h : t.size = 4
  · obtain ⟨b0, b1, b2, b3, rfl⟩ := four_of h
    exact rtag_any b0 b1 b2 b3 w
  · rw [tagB_no h]
    have h' : ¬ (t.size : Int) = 4 := by omega
    have h2 : ((t.size : Int) == 4) = false := by simpa using h'
    have h3 : (t.size : Int) ≤ 9223372036854775807 := by omega
    go_enter Tryd.func31, Tryd.ntmps31
    go_wp2_with fail
    go_ret
    exact ⟨rfl, rfl⟩
def f4 (x : Int) : List UInt8 := nbT (x / 65536) 2 ++ nbT x 2
set_option maxHeartbeats 1000000 in
theorem rfour_any (x : Int) (w : World) (h0 : -2147483648 ≤ x) (h1 : x ≤ 4294967295) : Calls Tryd.prog 40 #[.int .i64 x] w fun e w' => e = .returned (.string ⟨(f4 x).toArray⟩) ∧ Below w.heap.size w w' := by
  have C1 := hide (fun w => rtwo_any (x / 65536) w (by omega) (by omega))
  have C2 := hide (fun w => rtwo_any x w (by omega) (by omega))
  have a1 : ∀ w, (Op.stringOp .add (⟨(nbT (x / 65536) 2).toArray⟩ : ByteArray) (⟨(nbT x 2).toArray⟩ : ByteArray)).run Tryd.prog w = .ok (.string ⟨(f4 x).toArray⟩) w := fun w => by
    have h := run_string_add_sum (P := Tryd.prog) w (⟨(nbT (x / 65536) 2).toArray⟩ : ByteArray) (⟨(nbT x 2).toArray⟩ : ByteArray) (by show 2 + 2 ≤ _; omega)
    rw [h]
    have e : ((⟨(nbT (x / 65536) 2).toArray⟩ : ByteArray) ++ (⟨(nbT x 2).toArray⟩ : ByteArray)) = ⟨(f4 x).toArray⟩ := by
      unfold f4; apply ByteArray.ext; rw [ByteArray.data_append]; simp
    rw [e]
  generalize (⟨(f4 x).toArray⟩ : ByteArray) = T at a1 ⊢
  generalize (⟨(nbT (x / 65536) 2).toArray⟩ : ByteArray) = T1 at C1 a1
  generalize (⟨(nbT x 2).toArray⟩ : ByteArray) = T2 at C2 a1
  go_enter Tryd.func40, Tryd.ntmps40
  go_wp2_with fail
  refine (C1.out _).mono ?_
  rintro e w1 ⟨rfl, hb1⟩
  have B1 := hide hb1
  clear hb1
  go_wp2_with fail
  refine (C2.out _).mono ?_
  rintro e w2 ⟨rfl, hb2⟩
  have B2 := hide (below_t5 B1.out hb2)
  clear hb2
  go_wp2_with fail
  go_ret
  exact ⟨rfl, B2.out⟩
end Go.Proofs.YtgmmhlpdkoiheaaDoor
