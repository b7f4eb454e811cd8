/-
  A fact kept from the walk, and given back.
-/
import Derived.WalkKit
namespace Go.Proofs.YtpmdekhjodhdmaaDoor
open Go.RowKit
theorem hide {p : Prop} (h : p) : Hid p := h
theorem unhide {p : Prop} (h : Hid p) : p := h
end Go.Proofs.YtpmdekhjodhdmaaDoor
