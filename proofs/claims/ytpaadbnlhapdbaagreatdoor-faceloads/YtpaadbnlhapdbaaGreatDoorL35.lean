/-
  Joined: S8Opn.
-/
import Derived.Test.YtpaadbnlhapdbaaGreatDoorL20
import Derived.Test.YtpaadbnlhapdbaaGreatDoorL22
namespace Go.Proofs.YtpaadbnlhapdbaaGreatDoor.S8
open Go.RowKit Go.Deep
set_option linter.unusedVariables false
def expV (n:Nat):Nat:=Lib.bitLen n - 1
def powV (n:Nat):Nat:=2 ^ expV n
theorem exp_bd:∀n:Fin 33,1≤n.val→Lib.bitLen n.val=expV n.val+1∧expV n.val≤5∧powV n.val≤n.val∧n.val < 2 * powV n.val∧1≤powV n.val:=by decide +kernel
def opNums (n:Nat):List Int:=[(n:Int),16 * (powV n:Int),(expV n:Int),16 * ((n:Int) - (powV n:Int))]
def openT (n:Nat):List UInt8:=[0,1,0,0]++(opNums n).flatMap (fun x=>nbT x 2)
theorem len_any (x:Nat) (w:World) (h1:x≤1000000):Calls Tryz.prog 100 #[.int .u64 x] w fun e w'=>e=.returned (.int .i64 ((Lib.bitLen x:Nat):Int))∧w'=w:=by
 have h:=Any.bits_Len lays125 (x:Int) w (by omega) (by omega)
 rwa [Int.toNat_natCast] at h
theorem ix4_0 (x0 x1 x2 x3:Int) (w:World):(Instr.index 23 (.agg #[.int .i64 x0,.int .i64 x1,.int .i64 x2,.int .i64 x3]) (.int .i64 0)).run Tryz.prog w=.ok (.int .i64 x0) w:=by kernel_rfl
theorem ix4_1 (x0 x1 x2 x3:Int) (w:World):(Instr.index 23 (.agg #[.int .i64 x0,.int .i64 x1,.int .i64 x2,.int .i64 x3]) (.int .i64 1)).run Tryz.prog w=.ok (.int .i64 x1) w:=by kernel_rfl
theorem ix4_2 (x0 x1 x2 x3:Int) (w:World):(Instr.index 23 (.agg #[.int .i64 x0,.int .i64 x1,.int .i64 x2,.int .i64 x3]) (.int .i64 2)).run Tryz.prog w=.ok (.int .i64 x2) w:=by kernel_rfl
theorem ix4_3 (x0 x1 x2 x3:Int) (w:World):(Instr.index 23 (.agg #[.int .i64 x0,.int .i64 x1,.int .i64 x2,.int .i64 x3]) (.int .i64 3)).run Tryz.prog w=.ok (.int .i64 x3) w:=by kernel_rfl
theorem brow_new (w:World) (ys:List UInt8) (h:ys.length≤1000000000000):BRow (w.alloc (.cells (ys.map bcell).toArray 5)) w.heap.size (.slice (some ⟨w.heap.size,0,none⟩) ys.length ys.length) ys:=by
 refine ⟨by simp,Or.inr ⟨w.heap.size,ys.length,_,rfl,Nat.le_refl _,heap_alloc_new w _,Nat.le_refl _,by unfold maxLen;omega,by simp,?_⟩⟩
 rw [List.take_of_length_le (by simp)]
set_option maxRecDepth 8000 in
set_option maxHeartbeats 2000000 in
theorem opening_any (n:Nat) (w:World) (h1:1≤n) (h2:n≤32) :
  Calls Tryz.prog 107 #[.int .i64 n] w fun e w'=>e=.returned (.string ⟨(openT n).toArray⟩)∧Below w.heap.size w w':=by
 obtain ⟨hb,he5,hp1,hp2,hp3⟩:=exp_bd ⟨n,by omega⟩ h1
 simp only at hb he5 hp1 hp2 hp3
 have CL:=hide (len_any n w (by omega))
 have hn1:(1:Int)≤(n:Int):=by omega
 have hn2:(n:Int)≤32:=by omega
 have hw:IntKind.u64.wrap (n:Int)=(n:Int):=by simp [IntKind.wrap,IntKind.bits,IntKind.signed];omega
 rw [hb] at CL
 obtain ⟨q,hq⟩:∃q,expV n=q:=⟨_,rfl⟩
 have hpq:powV n=2 ^ q:=by unfold powV;rw [hq]
 rw [hq] at CL he5
 rw [show ((q+1:Nat):Int)=(q:Int)+1 by omega] at CL
 have hq0:(0:Int)≤(q:Int):=by omega
 have hq5:(q:Int)≤5:=by omega
 obtain ⟨p,hp⟩:∃p,powV n=p:=⟨_,rfl⟩
 rw [hp] at hp1 hp2 hp3 hpq
 have hsh:wrap64 ((2:Int) ^ q)=(p:Int):=by
  have e:(2:Int) ^ q=(p:Int):=by rw [hpq];simp
  rw [e]
  simp [wrap64]
  omega
 have hp1':(1:Int)≤(p:Int):=by omega
 have hp2':(p:Int)≤(n:Int):=by omega
 have hxs:opNums n=[(n:Int),16 * (p:Int),(q:Int),16 * ((n:Int) - (p:Int))]:=by unfold opNums;rw [hq,hp]
 have HXS:=hide hxs
 have HR0:=hide (brow_new w [0,1,0,0] (by decide))
 have HB0:=hide ((Below.refl w.heap.size w).alloc (Nat.le_refl _) (.cells #[.int .u8 0,.int .u8 1,.int .u8 0,.int .u8 0] 5))
 have CA:=hide (fun v ys x w'=>appendNumber_any v ys x 2 w.heap.size w' (by omega))
 clear hb hpq hq hp hxs
 go_enter Tryz.func107,Tryz.ntmps107
 go_wp2_with (go_at_call 100;refine CL.out.mono ?_;rintro e w' ⟨rfl,hw'⟩;replace hw':=hw'.symm;subst hw')
 rw [hsh]
 clear hsh
 go_loopw [5,24] (fun vb vi wr=>∃k:Nat,vi=.int .i64 k∧Hid (k≤4∧BRow wr w.heap.size vb ([0,1,0,0]++((opNums n).take k).flatMap (fun x=>nbT x 2))∧Below w.heap.size w wr)) (fun _ vi _=>4 - (intOf vi).toNat)
 case atStart=>exact ⟨0,rfl,hide ⟨by omega,HR0.out,HB0.out⟩⟩
 case round=>
  clear HR0 HB0 CL
  obtain ⟨k,rfl,HV⟩:=hrel
  obtain ⟨hk,hR,hB⟩:=HV.out
  have hk0:(0:Int)≤(k:Int):=by omega
  have HXX:=hide (show ∀x∈opNums n,-4611686018427387904≤x∧x≤4611686018427387904 by
   rw [HXS.out];intro x hx;simp at hx;rcases hx with rfl | rfl | rfl | rfl <;> omega)
  by_cases h4:k=4
  case pos=>
   subst h4
   have et:[0,1,0,0]++((opNums n).take 4).flatMap (fun x=>nbT x 2)=openT n:=rfl
   rw [et] at hR
   have htx:=BRow.text hR
   have HB:=hide hB
   clear hR hB HV HXX et hk
   go_wp2_with fail
   go_ret
   exact ⟨rfl,HB.out⟩
  have hk4:k < 4:=by omega
  have hlen:([0,1,0,0]++((opNums n).take k).flatMap (fun x=>nbT x 2)).length≤100:=by
   have : ∀l:List Int,(l.flatMap (fun x=>nbT x 2)).length=2 * l.length:=by
    intro l;induction l with
    | nil=>rfl
    | cons a l ih=>rw [List.flatMap_cons,List.length_append,ih,nbT_len,List.length_cons];omega
   rw [List.length_append,this,List.length_take]
   show 4+_≤_
   omega
  have HR:=hide hR
  have HB:=hide hB
  have HL:=hide hlen
  clear hR hB HV hlen hk h4
  have hkk:k=0∨k=1∨k=2∨k=3:=by omega
  have i0:=fun x0 x1 x2 x3 w=>ix4_0 x0 x1 x2 x3 w
  have i1:=fun x0 x1 x2 x3 w=>ix4_1 x0 x1 x2 x3 w
  have i2:=fun x0 x1 x2 x3 w=>ix4_2 x0 x1 x2 x3 w
  have i3:=fun x0 x1 x2 x3 w=>ix4_3 x0 x1 x2 x3 w
  rcases hkk with rfl | rfl | rfl | rfl
  all_goals
   go_wp2_with fail
   refine (CA.out _ _ _ _ ?_ ?_ HR.out HB.out.size (by have:=HL.out;omega)).mono ?_
   ·omega
   ·omega
   rintro e w2 ⟨v',rfl,hb2,hk2⟩
   have HR2:=hide hb2
   have HB2:=hide (HB.out.trans hk2.below)
   clear hb2 hk2
   go_wp2_with fail
   go_roundw
   case rel=>
    first | refine ⟨1,rfl,hide ⟨?_,?_,HB2.out⟩⟩ | refine ⟨2,rfl,hide ⟨?_,?_,HB2.out⟩⟩ | refine ⟨3,rfl,hide ⟨?_,?_,HB2.out⟩⟩ | refine ⟨4,rfl,hide ⟨?_,?_,HB2.out⟩⟩
    ·omega
    ·have h:=HR2.out
     rw [HXS.out] at h ⊢
     simpa using h
   case measure=>simp [intOf]
end Go.Proofs.YtpaadbnlhapdbaaGreatDoor.S8
