/-
  Joined: K17Rh, K17Rj, K17Rk.
-/
import Derived.BigQuiet
import Derived.Deep.Draws
import Derived.Deep.QuietTactic
import Derived.Deep.RegionHeld3
import Derived.Laws.Concat
import Derived.Lib.AppendStr
import Derived.Lib.Strings
import Derived.Test.YtpmdekhjodhdmaaDoorR02
import Derived.Test.YtpmdekhjodhdmaaDoorR04
import Derived.Test.YtpmdekhjodhdmaaDoorR09
import Derived.Test.YtpmdekhjodhdmaaDoorR14
import Derived.Test.YtpmdekhjodhdmaaDoorR15
import Derived.Test.YtpmdekhjodhdmaaDoorR16
import Derived.Test.YtpmdekhjodhdmaaDoorR17
import Derived.Test.YtpmdekhjodhdmaaDoorR19
namespace Go.Proofs.YtpmdekhjodhdmaaDoor.K17
open Go.RowKit Go.Proofs.YtpmdekhjodhdmaaDoor
open Go.Lib
set_option linter.unusedVariables false
set_option linter.unusedSimpArgs false
set_option maxRecDepth 100000
theorem ent_vt {l : List UInt8} {c m : Nat} (h : Vt l) (he : ent l = some (c, m)) : Vt (l.drop m) := by
  have hb := ent_bd he
  unfold ent at he
  split at he
  · simp at he
  · rename_i hne
    cases hq : entW (upto 59 (l.drop 1)) with
    | none => rw [hq] at he; simp at he
    | some x =>
      rw [hq] at he
      simp only [Option.map_some, Option.some.injEq, Prod.mk.injEq] at he
      obtain ⟨rfl, rfl⟩ := he
      have hm : (59 : UInt8) ∈ l.drop 1 := by
        by_cases hm : (59 : UInt8) ∈ l.drop 1
        · exact hm
        · exact absurd (by rw [upto_all hm]) hne
      have hg := upto_get hm
      rw [List.getElem?_drop] at hg
      have h1 := (h.cut (1 + (upto 59 (l.drop 1)).length) (fun b hb => by rw [hg] at hb; injection hb with hb; rw [← hb]; decide)).2
      have hlt := (List.getElem?_eq_some_iff.1 hg).1
      rw [List.drop_eq_getElem_cons hlt] at h1
      have hx : l[1 + (upto 59 (l.drop 1)).length] = 59 := by rw [List.getElem?_eq_getElem hlt] at hg; injection hg
      rw [hx] at h1
      have := (h1.low (by decide)).1
      rwa [show (upto 59 (l.drop 1)).length + 2 = 1 + (upto 59 (l.drop 1)).length + 1 by omega]
theorem hc_app {a : List UInt8} (h : Vt a) (b : List UInt8) : hc (a ++ b) = (hc a || hc b) := by
  induction h with
  | nil => rfl
  | cons c r hcp hr ih => rw [List.append_assoc, hc_cons c _ hcp, hc_cons c _ hcp, ih, Bool.or_assoc]
def HC (l r : List UInt8) : Bool := hc (l.take (l.length - r.length))
theorem below_d {V a b x : World} (h : Below V.heap.size V a) (hx : Below b.heap.size b x) (e0 : b.os = a.os) (e1 : b.tape = a.tape) (e2 : b.output = a.output) (e3 : b.heap = a.heap) : Below V.heap.size V x :=
  ⟨hx.os.trans (e0.trans h.os), hx.tape.trans (e1.trans h.tape), hx.output.trans (e2.trans h.output), Nat.le_trans h.size (by rw [← e3]; exact hx.size), fun k hk => by
    rw [hx.block k (by rw [e3]; exact Nat.lt_of_lt_of_le hk h.size), e3]; exact h.block k hk⟩
end Go.Proofs.YtpmdekhjodhdmaaDoor.K17
