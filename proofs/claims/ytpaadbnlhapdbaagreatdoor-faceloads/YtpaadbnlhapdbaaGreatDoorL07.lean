/-
  Joined: Lead.
-/
import Derived.Outline
import Derived.WalkKit
import Derived.Test.YtpaadbnlhapdbaaGreatDoorL02
namespace Go.Proofs.YtpaadbnlhapdbaaGreatDoor
open Go.RowKit
theorem lead_any (x:Nat) (w:World) (h0:x≠0) (h1:x < 18446744073709551616) :
  Calls Tryz.prog 188 #[.int .u64 x] w fun e w'=>e=.returned (.int .i64 ((64 - Lib.bitLen x:Nat):Int))∧w'=w:=by
 have l:=bitLen_bd x h0 h1
 have c:=fun w=>len64_any (x:Int) w (by omega) (by omega)
 simp only [Int.toNat_natCast] at c
 generalize Lib.bitLen x=L at *
 have hL:L≤64:=l.2.1
 clear l
 have C:Hid (∀w,_):=c
 clear c
 go_enter Tryz.func188,Tryz.ntmps188
 go_wp2_with fail
 refine (C.out _).mono ?_
 rintro e w' ⟨rfl,rfl⟩
 go_wp2
 go_ret
 exact ⟨congrArg Ending.returned (congrArg (Value.int IntKind.i64) (show (64:Int) - (L:Int)=((64 - L:Nat):Int) by omega)),rfl⟩
end Go.Proofs.YtpaadbnlhapdbaaGreatDoor
