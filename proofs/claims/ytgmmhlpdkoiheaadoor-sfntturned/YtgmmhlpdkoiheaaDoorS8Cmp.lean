/-
  What bytes.Compare answers of two tags.
-/
import Derived.Test.YtgmmhlpdkoiheaaDoorS8Hld
import Derived.Lib.BytesEntry
import Derived.Lib.Bytealg
import Derived.LoopN
namespace Go.Proofs.YtgmmhlpdkoiheaaDoor
open Go.RowKit Go.Deep
set_option linter.unusedVariables false

theorem cmp_run (b o b' o' : Nat) (c c' : Nat) (l l' : List UInt8) (w : World) (h : ∀ j x, l[j]? = some x → w.cell? ⟨b, o + j, none⟩ = some (.int .u8 x.toNat)) (h' : ∀ j x, l'[j]? = some x → w.cell? ⟨b', o' + j, none⟩ = some (.int .u8 x.toNat)) :
    (Extern.BytealgCompare.compare #[.slice (some ⟨b, o, none⟩) l.length c, .slice (some ⟨b', o', none⟩) l'.length c']).run Tryd.prog w = .ok (.int .i64 (Extern.BytealgCompare.cmp ⟨l.toArray⟩ ⟨l'.toArray⟩)) w := by
  have hx : ∀ l : List UInt8, (Lib.bytesOf (l.map fun x => (x.toNat : Int))) = l := by
    intro l
    unfold Lib.bytesOf
    rw [List.map_map]
    conv => rhs; rw [← List.map_id l]
    apply List.map_congr_left
    intro x _
    simp
  have key : ∀ (l : List UInt8) (b o : Nat), (∀ j x, l[j]? = some x → w.cell? ⟨b, o + j, none⟩ = some (.int .u8 x.toNat)) → (Extern.Bytes.loadBytes ⟨b, o, none⟩ l.length .empty).run Tryd.prog w = .ok ⟨l.toArray⟩ w := by
    intro l b o h
    have e1 := Lib.run_loadBytesX (P := Tryd.prog) w (l.map fun x => (x.toNat : Int)) ⟨b, o, none⟩ .empty (fun j x hx => by
      rw [Go.WideShapes.add_plain]
      rw [List.getElem?_map] at hx
      obtain ⟨y, hy, rfl⟩ := Option.map_eq_some_iff.1 hx
      exact h j y hy)
    rw [List.length_map, hx] at e1
    rw [e1]
    congr 1
    apply ByteArray.ext
    simp
  change Sem.run Tryd.prog (do pure (goInt (Extern.BytealgCompare.cmp (← Extern.Bytes.bytesOf (.slice (some ⟨b, o, none⟩) l.length c)) (← Extern.Bytes.bytesOf (.slice (some ⟨b', o', none⟩) l'.length c'))))) w = _
  simp only [Extern.Bytes.bytesOf, Sem.run_bind, Sem.run_pure, key l b o h, key l' b' o' h', Result.andThen]
  rfl
set_option maxHeartbeats 1000000 in
theorem compare_any (b o b' o' : Nat) (c c' : Nat) (l l' : List UInt8) (w : World) (h : ∀ j x, l[j]? = some x → w.cell? ⟨b, o + j, none⟩ = some (.int .u8 x.toNat)) (h' : ∀ j x, l'[j]? = some x → w.cell? ⟨b', o' + j, none⟩ = some (.int .u8 x.toNat)) :
    Calls Tryd.prog 58 #[.slice (some ⟨b, o, none⟩) l.length c, .slice (some ⟨b', o', none⟩) l'.length c'] w fun e w' => e = .returned (.int .i64 (Extern.BytealgCompare.cmp ⟨l.toArray⟩ ⟨l'.toArray⟩)) ∧ w' = w := by
  have hr := cmp_run b o b' o' c c' l l' w h h'
  have HR := hide hr
  clear hr h h'
  go_enter Tryd.func58, Tryd.ntmps58
  go_wp2_with fail
  rw [run_callFunc_extern Tryd.func71 (by kernel_rfl) (by kernel_rfl) (by kernel_rfl) (e := Extern.BytealgCompare.compare) (by kernel_rfl), HR.out]
  simp only [Result.andThen]
  rw [Oper.upon_value]
  go_wp2
  go_ret
  exact ⟨rfl, rfl⟩
end Go.Proofs.YtgmmhlpdkoiheaaDoor
