/-
  Joined: Len.
-/
import Derived.Lib.BitFns
import Derived.Lib.Small
import Derived.Lib.Walk
import Derived.Test.YtpaadbnlhapdbaaGreatDoorProg
namespace Go.Proofs.YtpaadbnlhapdbaaGreatDoor
theorem len_at (x b c:Int) (k:Nat) (hc:c=(k:Int)) (hk:k≤56) (h1:x≤18446744073709551615) (hl:2 ^ k≤x.toNat) (b0:0≤b) (b1:b≤255)
  (hb:b.toNat=x.toNat / 2 ^ k) :
  (c+((Lib.len8 b+9223372036854775808) % 18446744073709551616 - 9223372036854775808)+9223372036854775808) % 18446744073709551616 - 9223372036854775808=(Lib.bitLen x.toNat:Int):=by
 have l:=Lib.bitLen_le8' b b0 b1
 have hx:x.toNat < 2 ^ 64:=by omega
 have s:=Lib.bitLen_shift k x.toNat hl hx
 have e:=Lib.len8_of b b0 b1
 rw [←hb] at s
 generalize Lib.bitLen b.toNat=L at *
 generalize Lib.bitLen x.toNat=R at *
 generalize Lib.len8 b=T at *
 clear hb hl hx
 omega
theorem len_at0 (x b:Int) (h0:0≤x) (h1:x≤255) (hb:b=x) :
  (Lib.len8 b+9223372036854775808) % 18446744073709551616 - 9223372036854775808=(Lib.bitLen x.toNat:Int):=by
 have l:=Lib.bitLen_le8' x h0 h1
 have e:=Lib.len8_of x h0 h1
 rw [hb]
 generalize Lib.bitLen x.toNat=R at *
 generalize Lib.len8 x=T at *
 omega
set_option maxHeartbeats 4000000 in
set_option maxRecDepth 100000 in
theorem len64_any (x:Int) (w:World) (h0:0≤x) (h1:x≤18446744073709551615) :
  Calls Tryz.prog 132 #[.int .u64 x] w fun e w'=>e=.returned (.int .i64 (Lib.bitLen x.toNat))∧w'=w:=by
 go_enter Tryz.func132,Tryz.ntmps132
 go_wp2
 all_goals (go_ret;refine ⟨congrArg Ending.returned (congrArg (Value.int IntKind.i64) ?_),rfl⟩)
 ·exact len_at x _ _ 56 rfl (by omega) h1 (by omega) (by omega) (by omega) (by omega)
 ·exact len_at x _ _ 48 rfl (by omega) h1 (by omega) (by omega) (by omega) (by omega)
 ·exact len_at x _ _ 40 rfl (by omega) h1 (by omega) (by omega) (by omega) (by omega)
 ·exact len_at x _ _ 32 rfl (by omega) h1 (by omega) (by omega) (by omega) (by omega)
 ·exact len_at x _ _ 24 rfl (by omega) h1 (by omega) (by omega) (by omega) (by omega)
 ·exact len_at x _ _ 16 rfl (by omega) h1 (by omega) (by omega) (by omega) (by omega)
 ·exact len_at x _ _ 8 rfl (by omega) h1 (by omega) (by omega) (by omega) (by omega)
 ·exact len_at0 x _ h0 (by omega) (by omega)
theorem bitLen_bd (n:Nat) (h0:n≠0) (h:n < 18446744073709551616):1≤Lib.bitLen n∧Lib.bitLen n≤64∧2 ^ (Lib.bitLen n - 1)≤n∧n < 2 ^ Lib.bitLen n:=by
 suffices H:∀f m:Nat,m < 2 ^ f→m≠0→1≤Lib.bitLenAux f m∧Lib.bitLenAux f m≤f∧2 ^ (Lib.bitLenAux f m - 1)≤m∧m < 2 ^ Lib.bitLenAux f m by
  exact H 64 n h h0
 intro f
 induction f with
 | zero=>intro m h1 h2;exact absurd h1 (by simp;omega)
 | succ f ih=>
  intro m h1 h2
  have e:Lib.bitLenAux (f+1) m=1+Lib.bitLenAux f (m / 2):=by rw [Lib.bitLenAux,if_neg h2]
  by_cases hm:m / 2=0
  ·have hz:Lib.bitLenAux f 0=0:=by cases f <;> simp [Lib.bitLenAux]
   rw [e,hm,hz]
   have : m=1:=by omega
   subst this
   refine ⟨by omega,by omega,by decide,by decide⟩
  ·obtain ⟨a,b,c,d⟩:=ih (m / 2) (by rw [Nat.pow_succ] at h1;omega) hm
   rw [e]
   generalize Lib.bitLenAux f (m / 2)=L at *
   obtain ⟨j,rfl⟩:∃j,L=j+1:=⟨L - 1,by omega⟩
   have e1:1+(j+1) - 1=j+1:=by omega
   have e2:1+(j+1)=(j+1)+1:=by omega
   rw [e1,e2]
   simp only [Nat.add_sub_cancel] at c
   simp only [Nat.pow_succ] at c d ⊢
   refine ⟨by omega,by omega,by omega,by omega⟩
end Go.Proofs.YtpaadbnlhapdbaaGreatDoor
