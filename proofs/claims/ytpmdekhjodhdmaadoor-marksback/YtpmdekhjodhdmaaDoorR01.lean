/-
  Joined: Hide.
-/
import Derived.WalkKit
namespace Go.Proofs.YtpmdekhjodhdmaaDoor
open Go.RowKit
theorem hide {p : Prop} (h : p) : Hid p := h
end Go.Proofs.YtpmdekhjodhdmaaDoor
