/-
  Joined: K17LP.
-/
import Derived.Lib.LaidU8T
import Derived.MakeChecks
import Derived.Test.YtpmdekhjodhdmaaDoorRows
import Derived.Test.YtpmdekhjodhdmaaDoorQ09
import Derived.Test.YtpmdekhjodhdmaaDoorQ11
import Derived.Test.YtpmdekhjodhdmaaDoorQ14
import Derived.Test.YtpmdekhjodhdmaaDoorQ17
import Derived.Test.YtpmdekhjodhdmaaDoorQ19
namespace Go.Proofs.YtpmdekhjodhdmaaDoor.K17
open Go.RowKit Go.Proofs.YtpmdekhjodhdmaaDoor
open Go.Lib
set_option linter.unusedVariables false
set_option linter.unusedSimpArgs false
set_option maxRecDepth 8000
theorem Chain.len {l : List UInt8} {p : Nat} {ts : List Tk} (h : Chain l p ts) : p + ts.length ≤ l.length := by
  induction h with
  | nil => simp
  | cons p n t ts _ _ h1 h2 _ _ _ ih => rw [List.length_cons]; omega
theorem scV_len {l : List UInt8} {ts : List Tk} (hv : Vt l) (h : scV l = .ok ts) : ts.length ≤ l.length := by
  unfold scV at h
  obtain ⟨us, e1, e2⟩ := scF_chain l l.length 0 [] ts (by omega) (by omega) (by simpa using hv) (by simpa using h)
  rw [List.nil_append] at e1
  subst e1
  have := e2.len
  omega
end Go.Proofs.YtpmdekhjodhdmaaDoor.K17
