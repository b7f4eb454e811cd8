/-
  Joined: Base.
-/
import Derived.Outline
import Derived.Test.YtpaadbnlhapdbaaGreatDoorProg
import Derived.WalkKit
import Derived.Test.YtpaadbnlhapdbaaGreatDoorL03
namespace Go.Proofs.YtpaadbnlhapdbaaGreatDoor
open Go.RowKit
def inB (x:Int):Bool:=decide (-1099511627776≤x∧x≤1099511627776)
def tolV (x:Int):Int:=if inB x=true then x else 0
theorem inB_t {x:Int} (h1:-1099511627776≤x) (h2:x≤1099511627776):inB x=true:=by unfold inB;simp [h1,h2]
theorem inB_f {x:Int} (h:¬(-1099511627776≤x∧x≤1099511627776)):inB x=false:=by unfold inB;simp only [decide_eq_false_iff_not];exact h
theorem inB_bd {x:Int} (h:inB x=true):-1099511627776≤x∧x≤1099511627776:=by unfold inB at h;simpa using h
theorem tolV_t {x:Int} (h:inB x=true):tolV x=x:=by unfold tolV;rw [if_pos h]
theorem tolV_f {x:Int} (h:inB x=false):tolV x=0:=by unfold tolV;rw [if_neg (by simp [h])]
theorem in_t (x:Int) (w:World) (h1:-1099511627776≤x) (h2:x≤1099511627776) :
  Calls Tryz.prog 51 #[.int .i64 x] w fun e w'=>e=.returned (.bool true)∧w'=w:=by
 go_enter Tryz.func51,Tryz.ntmps51
 go_wp2
 go_ret
 exact ⟨rfl,rfl⟩
theorem in_lo (x:Int) (w:World) (h1:x < -1099511627776) :
  Calls Tryz.prog 51 #[.int .i64 x] w fun e w'=>e=.returned (.bool false)∧w'=w:=by
 go_enter Tryz.func51,Tryz.ntmps51
 go_wp2
 go_ret
 exact ⟨rfl,rfl⟩
theorem in_hi (x:Int) (w:World) (h1:1099511627776 < x) :
  Calls Tryz.prog 51 #[.int .i64 x] w fun e w'=>e=.returned (.bool false)∧w'=w:=by
 have h0:-1099511627776≤x:=by omega
 have hd:decide (x≤1099511627776)=false:=by simp;omega
 go_enter Tryz.func51,Tryz.ntmps51
 go_wp2
 go_ret
 exact ⟨rfl,rfl⟩
theorem in_any (x:Int) (w:World) :
  Calls Tryz.prog 51 #[.int .i64 x] w fun e w'=>e=.returned (.bool (inB x))∧w'=w:=by
 by_cases h1:-1099511627776≤x
 ·by_cases h2:x≤1099511627776
  ·rw [inB_t h1 h2];exact in_t x w h1 h2
  ·rw [inB_f (by omega)];exact in_hi x w (by omega)
 ·rw [inB_f (by omega)];exact in_lo x w (by omega)
theorem ifIn_any (x:Int) (w:World) :
  Calls Tryz.prog 52 #[.int .i64 x] w fun e w'=>e=.returned (.tuple #[.int .i64 (tolV x),.bool (inB x)])∧w'=w:=by
 cases h:inB x
 ·rw [tolV_f h]
  go_enter Tryz.func52,Tryz.ntmps52
  go_wp2_with (go_at_call 51;refine (in_any _ _).mono ?_;rintro e w' ⟨rfl,rfl⟩)
  go_ret2
  exact ⟨rfl,rfl⟩
 ·rw [tolV_t h]
  go_enter Tryz.func52,Tryz.ntmps52
  go_wp2_with (go_at_call 51;refine (in_any _ _).mono ?_;rintro e w' ⟨rfl,rfl⟩)
  go_ret2
  exact ⟨rfl,rfl⟩
def sumV (a b s:Int):Int:=if inB a && inB b then tolV s else 0
def sumB (a b s:Int):Bool:=inB a && inB b && inB s
theorem add_any (a b:Int) (w:World) :
  Calls Tryz.prog 26 #[.int .i64 a,.int .i64 b] w fun e w'=>e=.returned (.tuple #[.int .i64 (sumV a b (a+b)),.bool (sumB a b (a+b))])∧w'=w:=by
 cases ha:inB a
 ·rw [show sumV a b (a+b)=0 by simp [sumV,ha],show sumB a b (a+b)=false by simp [sumB,ha]]
  go_enter Tryz.func26,Tryz.ntmps26
  go_wp2_with (go_at_call 51;refine (in_any _ _).mono ?_;rintro e w' ⟨rfl,rfl⟩)
  go_ret2
  exact ⟨rfl,rfl⟩
 cases hb:inB b
 ·rw [show sumV a b (a+b)=0 by simp [sumV,hb],show sumB a b (a+b)=false by simp [sumB,hb]]
  go_enter Tryz.func26,Tryz.ntmps26
  go_wp2_with (go_at_call 51;refine (in_any _ _).mono ?_;rintro e w' ⟨rfl,rfl⟩)
  go_ret2
  exact ⟨rfl,rfl⟩
 ·rw [show sumV a b (a+b)=tolV (a+b) by simp [sumV,ha,hb],show sumB a b (a+b)=inB (a+b) by simp [sumB,ha,hb]]
  have ba:=inB_bd ha
  have bb:=inB_bd hb
  go_enter Tryz.func26,Tryz.ntmps26
  go_wp2_with (first | (go_at_call 51;refine (in_any _ _).mono ?_;rintro e w' ⟨rfl,rfl⟩) | (go_at_call 52;refine (ifIn_any _ _).mono ?_;rintro e w' ⟨rfl,rfl⟩))
  go_ret2
  exact ⟨rfl,rfl⟩
end Go.Proofs.YtpaadbnlhapdbaaGreatDoor
