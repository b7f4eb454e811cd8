/-
  Joined: S8Sum.
-/
import Derived.Laws.BitsLemmas
import Derived.Lib.Strings
import Derived.Outline
import Derived.Test.YtpaadbnlhapdbaaGreatDoorProg
import Derived.WalkKit
import Derived.Test.YtpaadbnlhapdbaaGreatDoorL03
namespace Go.Proofs.YtpaadbnlhapdbaaGreatDoor.S8
open Go.RowKit
theorem take_snoc8 (s:ByteArray) (k:Nat) (h:k < s.size):s.data.toList.take (k+1)=s.data.toList.take k++[s[k]]:=by
 rw [List.take_succ_eq_append_getElem (by simpa using h)];rfl
theorem sum_step8 (s:ByteArray) (k r:Nat) (h:k < s.size) (hr:k % 4=r):sumA (s.data.toList.take (k+1)) 0=sumA (s.data.toList.take k) 0+s[k].toNat * 2 ^ (24 - 8 * r):=by
 rw [take_snoc8 s k h,sumA_snoc,List.length_take,Nat.min_eq_left (by rw [←Lib.size_eq];omega),hr]
set_option maxHeartbeats 1000000 in
theorem sum_any (s:ByteArray) (w:World) (hs:s.size≤140737488355328) :
  Calls Tryz.prog 108 #[.string s] w fun e w'=>e=.returned (.int .i64 ((sumV s.data.toList:Nat):Int))∧w'=w:=by
 have hs':(s.size:Int)≤140737488355328:=by omega
 go_enter Tryz.func108,Tryz.ntmps108
 go_wp2_with fail
 go_loop [3,7] (fun vs vi=>∃(k S:Nat),vi=.int .i64 k∧vs=.int .u32 S∧Hid (k≤s.size∧S=sumA (s.data.toList.take k) 0 % 4294967296)) (fun _ vi=>s.size - (intOf vi).toNat)
 case atStart=>exact ⟨0,0,rfl,rfl,hide ⟨by omega,by simp [sumA]⟩⟩
 case round=>
  obtain ⟨k,S,rfl,rfl,HV⟩:=hrel
  obtain ⟨hk,hS⟩:=HV.out
  have hk0:(0:Int)≤(k:Int):=by omega
  have hS0:(0:Int)≤(S:Int):=by omega
  have hS1:(S:Int)≤4294967295:=by omega
  have HK:=hide hk
  have HS:=hide hS
  clear HV hS
  by_cases hlt:k < s.size
  case neg=>
   have hlt':¬(k:Int) < (s.size:Int):=by omega
   have e:S=sumV s.data.toList:=by
    unfold sumV
    rw [HS.out,List.take_of_length_le (by rw [←Lib.size_eq];omega)]
   subst e
   clear hlt HS
   go_wp2_with fail
   go_ret
   exact ⟨rfl,rfl⟩
  have hlt':(k:Int) < (s.size:Int):=by omega
  have hc:=s[k].toNat_lt
  have hr:k % 4=0∨k % 4=1∨k % 4=2∨k % 4=3:=by omega
  rcases hr with hr | hr | hr | hr
  all_goals
   have st:=sum_step8 s k _ hlt hr
   have HST:=hide st
   have hm:(k:Int) % 4=((k % 4:Nat):Int):=by omega
   rw [hr] at hm
   clear st hr
   go_wp2_with fail
   go_round
   case rel=>
    refine ⟨k+1,sumA (s.data.toList.take (k+1)) 0 % 4294967296,by go_num,?_,hide ⟨hlt,rfl⟩⟩
    have h1:=HS.out
    have h2:=HST.out
    rw [h2]
    congr 1
    omega
   case measure=>simp [intOf];omega
theorem sumA_le:∀(l:List UInt8) (i:Nat),sumA l i≤4278190080 * l.length
 | [],_=>Nat.zero_le _
 | c :: r,i=>by
  have h:=sumA_le r (i+1)
  have hc:c.toNat < 256:=c.toNat_lt
  have hp:2 ^ (24 - 8 * (i % 4))≤2 ^ 24:=Nat.pow_le_pow_right (by omega) (by omega)
  have hm:c.toNat * 2 ^ (24 - 8 * (i % 4))≤255 * 2 ^ 24:=Nat.mul_le_mul (by omega) hp
  rw [sumA,List.length_cons]
  omega
theorem wraps_i64 (n:Int) (h₀:0≤n) (h₁:n < 2 ^ 63):IntKind.i64.wrap n=n:=by rw [IntKind.wrap_i64];omega
theorem and_32 (t:Int) (h0:0≤t) (h1:t≤100000000000000000):bits BinOp.and .i64 t 4294967295=t % 4294967296:=
 bits_mask .i64 63 (by decide) wraps_i64 32 (by decide) t h0 (by omega)
set_option maxHeartbeats 1000000 in
theorem rsum_any (s:ByteArray) (w:World) (hs:s.size≤16777216) :
  Calls Tryz.prog 41 #[.string s] w fun e w'=>e=.returned (.int .i64 ((sumV s.data.toList:Nat):Int))∧w'=w:=by
 have hs':(s.size:Int)≤16777216:=by omega
 go_enter Tryz.func41,Tryz.ntmps41
 go_wp2_with fail
 go_loop [3,4] (fun vs vi=>∃(k S:Nat),vi=.int .i64 k∧vs=.int .i64 S∧Hid (k≤s.size∧S=sumA (s.data.toList.take k) 0)) (fun _ vi=>s.size - (intOf vi).toNat)
 case atStart=>exact ⟨0,0,rfl,rfl,hide ⟨by omega,by simp [sumA]⟩⟩
 case round=>
  obtain ⟨k,S,rfl,rfl,HV⟩:=hrel
  obtain ⟨hk,hS⟩:=HV.out
  have hk0:(0:Int)≤(k:Int):=by omega
  have hS0:(0:Int)≤(S:Int):=by omega
  have hS1:(S:Int)≤72000000000000000:=by
   have h1:=sumA_le (s.data.toList.take k) 0
   have h2:=List.length_take_le k s.data.toList
   omega
  have HK:=hide hk
  have HS:=hide hS
  clear HV hS
  by_cases hlt:k < s.size
  case neg=>
   have hlt':¬(k:Int) < (s.size:Int):=by omega
   have e:S=sumA s.data.toList 0:=by
    rw [HS.out,List.take_of_length_le (by rw [←Lib.size_eq];omega)]
   have ha:=and_32 S (by omega) (by omega)
   have E:=hide e
   clear hlt HS e
   go_wp2_with fail
   go_ret
   refine ⟨?_,rfl⟩
   unfold sumV
   rw [←E.out]
   rfl
  have hlt':(k:Int) < (s.size:Int):=by omega
  have hc:=s[k].toNat_lt
  have hr:k % 4=0∨k % 4=1∨k % 4=2∨k % 4=3:=by omega
  rcases hr with hr | hr | hr | hr
  all_goals
   have st:=sum_step8 s k _ hlt hr
   have HST:=hide st
   have hm:(k:Int) % 4=((k % 4:Nat):Int):=by omega
   rw [hr] at hm
   clear st hr
   go_wp2_with fail
   go_round
   case rel=>
    refine ⟨k+1,sumA (s.data.toList.take (k+1)) 0,by go_num,?_,hide ⟨hlt,rfl⟩⟩
    have h1:=HS.out
    have h2:=HST.out
    rw [h2]
    congr 1
    omega
   case measure=>simp [intOf];omega
end Go.Proofs.YtpaadbnlhapdbaaGreatDoor.S8
