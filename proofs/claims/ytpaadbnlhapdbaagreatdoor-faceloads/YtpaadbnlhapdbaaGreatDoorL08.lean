/-
  Joined: Div, Divide, Scale.
-/
import Derived.BigQuiet
import Derived.ChangeAlike
import Derived.Deep.QuietTactic
import Derived.Outline
import Derived.RegionTactic
import Derived.WalkKit
import Derived.Test.YtpaadbnlhapdbaaGreatDoorL00
import Derived.Test.YtpaadbnlhapdbaaGreatDoorL04
import Derived.Test.YtpaadbnlhapdbaaGreatDoorL06
import Derived.Test.YtpaadbnlhapdbaaGreatDoorL07
namespace Go.Proofs.YtpaadbnlhapdbaaGreatDoor
open Go.RowKit Go.Lib
theorem div64_small (lo y:Nat) (hlo:lo < 18446744073709551616) (hy:0 < y) (hy2:y < 9223372036854775808) (w:World) :
  Calls Tryz.prog 164 #[.int .u64 0,.int .u64 lo,.int .u64 y] w fun e w'=>e=.returned (.tuple #[.int .u64 ((lo / y:Nat):Int),.int .u64 ((lo % y:Nat):Int)])∧∃n,w'=w.drewN n:=by
 have y0:((y:Int) == 0)=false:=by rw [beq_eq_false_iff_ne];omega
 go_enter Tryz.func164,Tryz.ntmps164
 go_wp2
 go_region
 go_wp2
 have e1:IntKind.u64.wrap ((lo:Int) / (y:Int))=((lo / y:Nat):Int):=by
  rw [←Int.natCast_ediv,wrapN _ (by have:=Nat.div_le_self lo y;omega)]
 have e2:(lo:Int) % (y:Int)=((lo % y:Nat):Int):=(Int.natCast_emod lo y).symm
 simp only [e1,e2]
 go_ret2
 exact ⟨rfl,1,rfl⟩
theorem shift_bd (y s:Nat) (h0:y≠0) (hy:y < 9223372036854775808) (hs:s=64 - Lib.bitLen y) :
  1≤s∧s≤63∧9223372036854775808≤y * 2 ^ s∧y * 2 ^ s < 18446744073709551616:=by
 obtain ⟨l1,l2,l3,l4⟩:=bitLen_bd y h0 (by omega)
 generalize Lib.bitLen y=L at *
 have hL:L - 1 < 63:=(Nat.pow_lt_pow_iff_right (by omega:1 < 2)).1 (Nat.lt_of_le_of_lt l3 (show y < 2 ^ 63 by omega))
 have e1:2 ^ (L - 1) * 2 ^ s=9223372036854775808:=by
  rw [←Nat.pow_add,show L - 1+s=63 by omega]
 have e2:2 ^ L * 2 ^ s=18446744073709551616:=by
  rw [←Nat.pow_add,show L+s=64 by omega]
 refine ⟨by omega,by omega,?_,?_⟩
 ·rw [←e1];exact Nat.mul_le_mul_right _ l3
 ·rw [←e2];exact Nat.mul_lt_mul_of_pos_right l4 (Nat.two_pow_pos s)
theorem powN (n:Nat) (s:Nat):(n:Int) * 2 ^ s=((n * 2 ^ s:Nat):Int):=by simp
structure Made (hi lo y s Y a b U V d1 d0:Nat):Prop where
 eY:IntKind.u64.wrap ((y:Int) * 2 ^ s)=(Y:Int)
 eA:(Y:Int) / 4294967296=(a:Int)
 eB:bits .and .u64 (Y:Int) 4294967295=(b:Int)
 eU:bits .or .u64 (IntKind.u64.wrap ((hi:Int) * 2 ^ s)) ((lo:Int) / 2 ^ (64 - s))=(U:Int)
 eV:IntKind.u64.wrap ((lo:Int) * 2 ^ s)=(V:Int)
 eD1:(V:Int) / 4294967296=(d1:Int)
 eD0:bits .and .u64 (V:Int) 4294967295=(d0:Int)
 hY:Y=a * 4294967296+b
 hYs:Y=y * 2 ^ s
 h1:9223372036854775808≤Y
 h2:Y < 18446744073709551616
 ha:2147483648≤a
 ha2:a < 4294967296
 hb:b < 4294967296
 hd1:d1 < 4294967296
 hd0:d0 < 4294967296
 hU:U < Y
 whole:(hi * 18446744073709551616+lo) * 2 ^ s=(U * 4294967296+d1) * 4294967296+d0
theorem made (hi lo y s:Nat) (hlo:lo < 18446744073709551616) (hhi:hi < y) (s1:1≤s) (s2:s≤63)
  (h1:9223372036854775808≤y * 2 ^ s) (h2:y * 2 ^ s < 18446744073709551616):∃Y a b U V d1 d0,Made hi lo y s Y a b U V d1 d0:=by
 have hw:=DivMath.words hi lo s (by omega)
 have hl:=DivMath.low_lt lo s (by omega) hlo
 have ho:=DivMath.or_words hi (lo / 2 ^ (64 - s)) s hl
 have hp:0 < 2 ^ s:=Nat.two_pow_pos s
 have hUlt:hi * 2 ^ s+lo / 2 ^ (64 - s) < y * 2 ^ s:=by
  have:=Nat.mul_le_mul_right (2 ^ s) (show hi+1≤y by omega)
  rw [Nat.add_mul,Nat.one_mul] at this
  omega
 have hhs:hi * 2 ^ s < 18446744073709551616:=Nat.lt_of_le_of_lt (Nat.le_add_right _ _) (Nat.lt_trans hUlt h2)
 have hls:lo / 2 ^ (64 - s) < 18446744073709551616:=Nat.lt_of_le_of_lt (Nat.div_le_self lo _) hlo
 have eU:bits .or .u64 (IntKind.u64.wrap ((hi:Int) * 2 ^ s)) ((lo:Int) / 2 ^ (64 - s))=((hi * 2 ^ s+lo / 2 ^ (64 - s):Nat):Int):=by
  rw [powN hi s,wrapN _ hhs]
  have e:(lo:Int) / 2 ^ (64 - s)=((lo / 2 ^ (64 - s):Nat):Int):=by simp
  rw [e,bits_or_u64_nat _ _ hhs hls,ho]
 have eV:IntKind.u64.wrap ((lo:Int) * 2 ^ s)=((lo * 2 ^ s % 18446744073709551616:Nat):Int):=by
  rw [powN lo s,wrapM]
 have eY:IntKind.u64.wrap ((y:Int) * 2 ^ s)=((y * 2 ^ s:Nat):Int):=by rw [powN y s,wrapN _ h2]
 clear ho hl hp
 have hV:lo * 2 ^ s % 18446744073709551616 < 18446744073709551616:=Nat.mod_lt _ (by omega)
 generalize hYs:y * 2 ^ s=Y at *
 generalize lo * 2 ^ s % 18446744073709551616=V at *
 generalize hi * 2 ^ s+lo / 2 ^ (64 - s)=U at *
 exact ⟨Y,Y / 4294967296,Y % 4294967296,U,V,V / 4294967296,V % 4294967296,
  { eY:=eY,eA:=divN Y,eB:=maskN Y h2,eU:=eU,eV:=eV,eD1:=divN V,eD0:=maskN V hV,
    hY:=by omega,hYs:=hYs.symm,h1:=h1,h2:=h2,ha:=by omega,ha2:=by omega,hb:=by omega,hd1:=by omega,hd0:=by omega,
    hU:=hUlt,whole:=by rw [hw];omega }⟩
structure Digit (a b Y U d q0 p0 Q R:Nat):Prop where
 eQ:IntKind.u64.wrap ((U:Int) / (a:Int))=(q0:Int)
 eP:IntKind.u64.wrap ((q0:Int) * (a:Int))=(p0:Int)
 eR:IntKind.u64.wrap (IntKind.u64.wrap (IntKind.u64.wrap ((U:Int) * 4294967296)+(d:Int)) - IntKind.u64.wrap ((Q:Int) * (Y:Int)))=(R:Int)
 g1:Q≤q0
 g2:q0≤4294967297
 g3:Q < 4294967296
 g4:p0≤U
 g5:U < p0+a
 g6:q0 * a+(U - p0)=U
 g7:R < Y
 way:∀q r p:Nat,q * a+r=U→q * b=p→Q≤q→q≤4294967297→
  (q < 4294967296∧p≤4294967296 * r+d∧Q=q)∨
  ((4294967296≤q∨q < 4294967296∧4294967296 * r+d < p)∧r+a < 4294967296∧Q≤q - 1∧1≤q∧(q - 1) * a+(r+a)=U)∨
  ((4294967296≤q∨q < 4294967296∧4294967296 * r+d < p)∧4294967296≤r+a∧q=Q+1)
 isQ:Q=(U * 4294967296+d) / Y
 isR:R=(U * 4294967296+d) % Y
theorem digit (a b Y U d:Nat) (hY:Y=a * 4294967296+b) (h2:Y < 18446744073709551616) (ha:2147483648≤a) (hb:b < 4294967296) (hd:d < 4294967296) (hU:U < Y) :
  ∃q0 p0 Q R,Digit a b Y U d q0 p0 Q R:=by
 have S:DivMath.Step 4294967296 a b U d:=⟨by omega,hb,by omega,hd⟩
 have g1:=S.start
 have g2:=S.start_hi
 have g3:=S.digit
 have way:=S.way
 have g4:U / a * a≤U:=Nat.div_mul_le_self U a
 have g5:U < U / a * a+a:=by have:=Nat.lt_div_mul_add (a:=U) (b:=a) (by omega);omega
 rw [←hY] at g1 g3 way
 have hdm:=Nat.div_add_mod (U * 4294967296+d) Y
 have g7:(U * 4294967296+d) % Y < Y:=Nat.mod_lt _ (by omega)
 refine ⟨U / a,U / a * a,(U * 4294967296+d) / Y,(U * 4294967296+d) % Y,
  { eQ:=by rw [←Int.natCast_ediv,wrapN _ (by omega)],
    eP:=by rw [mulN,wrapN _ (by omega)],
    eR:=?_,g1:=g1,g2:=g2,g3:=g3,g4:=g4,g5:=g5,g6:=by omega,g7:=g7,way:=way,isQ:=rfl,isR:=rfl }⟩
 clear way g1 g3 S
 generalize (U * 4294967296+d) / Y=Q at *
 generalize (U * 4294967296+d) % Y=R at *
 rw [mulN Q Y,Nat.mul_comm Q Y]
 generalize Y * Q=T at *
 simp only [IntKind.wrap_u64]
 omega
set_option maxRecDepth 100000 in
set_option maxHeartbeats 2000000 in
theorem div64_big (hi lo y s:Nat) (hlo:lo < 18446744073709551616) (hy2:y < 9223372036854775808) (h0:0 < hi) (hhi:hi < y) (w:World)
  (hs:s=64 - Lib.bitLen y) :
  Calls Tryz.prog 164 #[.int .u64 hi,.int .u64 lo,.int .u64 y] w fun e w'=>e=.returned (.tuple #[.int .u64 (((hi * 18446744073709551616+lo) / y:Nat):Int),.int .u64 (((hi * 18446744073709551616+lo) % y:Nat):Int)])∧∃n,w'=w.drewN n:=by
 have y0:((y:Int) == 0)=false:=by rw [beq_eq_false_iff_ne];omega
 have hi0:((hi:Int) == 0)=false:=by rw [beq_eq_false_iff_ne];omega
 have c:=fun w=>lead_any y w (by omega) (by omega)
 rw [←hs] at c
 obtain ⟨s1,s2,k1,k2⟩:=shift_bd y s (by omega) hy2 hs
 obtain ⟨Y,a,b,U,V,d1,d0,M⟩:=made hi lo y s hlo hhi s1 s2 k1 k2
 obtain ⟨q0,p0,Q,R,D1⟩:=digit a b Y U d1 M.hY M.h2 M.ha M.hb M.hd1 M.hU
 obtain ⟨q3,p3,Q3,R3,D2⟩:=digit a b Y R d0 M.hY M.h2 M.ha M.hb M.hd0 D1.g7
 -- the end's two numbers
 have hYpos:0 < Y:=by have:=M.h1;omega
 obtain ⟨t1,t2⟩:=DivMath.two (U * 4294967296+d1) d0 Y 4294967296 hYpos
 obtain ⟨z1,z2⟩:=DivMath.scaled (hi * 18446744073709551616+lo) y s
 rw [←M.hYs,M.whole] at z1 z2
 rw [t1,←D1.isQ,←D1.isR,←D2.isQ] at z1
 rw [t2,←D1.isR,←D2.isR] at z2
 have FQ:=hide z1
 have FR:=hide z2
 clear t1 t2 z1 z2 hYpos k1 k2
 have HW1:=hide D1.way
 have HW2:=hide D2.way
 have G1:=hide (And.intro D1.g1 (And.intro D1.g2 (And.intro D1.g6 D1.g5)))
 have G2:=hide (And.intro D2.g1 (And.intro D2.g2 (And.intro D2.g6 D2.g5)))
 have eY:=M.eY;have eA:=M.eA;have eB:=M.eB;have eU:=M.eU;have eV:=M.eV;have eD1:=M.eD1;have eD0:=M.eD0
 have ha:=M.ha;have ha2:=M.ha2;have hb:=M.hb;have hd1:=M.hd1;have hd0:=M.hd0;have hU:=M.hU;have h2:=M.h2
 have eQ:=D1.eQ;have eP:=D1.eP;have eR:=D1.eR;have g4:=D1.g4
 have eQ3:=D2.eQ;have eP3:=D2.eP;have eR3:=D2.eR;have g43:=D2.g4;have g7:=D1.g7;have g73:=D2.g7
 have g3:=D1.g3;have g33:=D2.g3
 clear M D1 D2 hs
 have C:Hid (∀w,_):=c
 clear c
 go_enter Tryz.func164,Tryz.ntmps164
 go_wp2_with fail
 refine (C.out _).mono ?_
 rintro e w' ⟨rfl,rfl⟩
 go_wp2_with fail
 go_loop [15,16] (fun vq vr=>∃q r:Nat,vq=.int .u64 q∧vr=.int .u64 r∧Hid (q * a+r=U∧Q≤q∧q≤4294967297∧r < 4294967296)) (fun vq _=>(RowKit.intOf vq).toNat)
 case atStart=>exact ⟨q0,U - p0,rfl,by go_num,hide ⟨G1.out.2.2.1,G1.out.1,G1.out.2.1,by have:=G1.out.2.2.2;omega⟩⟩
 case round=>
  obtain ⟨q,r,rfl,rfl,HR⟩:=hrel
  obtain ⟨hq,r1,r2,r3⟩:=HR.out
  obtain ⟨p,hp⟩:∃p,q * b=p:=⟨_,rfl⟩
  have way:=HW1.out q r p hq hp r1 r2
  have eqb:q < 4294967296→IntKind.u64.wrap ((q:Int) * (b:Int))=(p:Int):=by
   intro h
   have h3:p≤18446744065119617025:=by rw [←hp];exact Lib.half_mul_le (by omega) (by omega)
   rw [mulN,hp,wrapN _ (by omega)]
  have b5:(q:Int)≤18446744073709551615:=by omega
  have R2:=hide r2
  clear hp hq r1 r2 HR
  rcases way with ⟨wq,wt,wQ⟩ | ⟨wq,wr,wQ,w1,HQ⟩ | ⟨wq,wr,wQ⟩
  rotate_left
  focus
   have HQ':=hide HQ
   clear HQ
   have b3:decide ((4294967296:Int)≤(r:Int)+(a:Int))=false:=by simp;omega
   have b4:(1:Int)≤(q:Int):=by omega
   have K:=hide (And.intro wr wQ)
   rcases wq with wq | ⟨wq,wt⟩
   ·have b1:decide ((4294967296:Int)≤(q:Int))=true:=by simp;omega
    clear eqb wq wr wQ
    go_wp2
    go_round
    case rel=>exact ⟨q - 1,r+a,by go_num,by go_num,hide ⟨HQ'.out,K.out.2,by have:=R2.out;omega,K.out.1⟩⟩
    case measure=>simp [RowKit.intOf];omega
   ·have eqp:=eqb wq
    have b1:decide ((4294967296:Int)≤(q:Int))=false:=by simp;omega
    have b2:decide ((4294967296:Int) * (r:Int)+(d1:Int) < (p:Int))=true:=by simp;omega
    clear eqb wq wr wQ wt
    go_wp2
    go_round
    case rel=>exact ⟨q - 1,r+a,by go_num,by go_num,hide ⟨HQ'.out,K.out.2,by have:=R2.out;omega,K.out.1⟩⟩
    case measure=>simp [RowKit.intOf];omega
  focus
   have b3:decide ((4294967296:Int)≤(r:Int)+(a:Int))=true:=by simp;omega
   have b4:(1:Int)≤(q:Int):=by omega
   have b6:(q:Int) - 1=(Q:Int):=by omega
   clear wQ
   rcases wq with wq | ⟨wq,wt⟩
   focus
    have b1:decide ((4294967296:Int)≤(q:Int))=true:=by simp;omega
    clear eqb wq wr
    go_wp2_with fail
   rotate_left
   focus
    have eqp:=eqb wq
    have b1:decide ((4294967296:Int)≤(q:Int))=false:=by simp;omega
    have b2:decide ((4294967296:Int) * (r:Int)+(d1:Int) < (p:Int))=true:=by simp;omega
    clear eqb wq wr wt
    go_wp2_with fail
  rotate_left
  rotate_left
  focus
   subst wQ
   have eqp:=eqb wq
   have b1:decide ((4294967296:Int)≤(Q:Int))=false:=by simp;omega
   have b2:decide ((4294967296:Int) * (r:Int)+(d1:Int) < (p:Int))=false:=by simp;omega
   clear eqb wq wt
   go_wp2_with fail
  all_goals
   go_loop [18,16] (fun vq vr=>∃q r:Nat,vq=.int .u64 q∧vr=.int .u64 r∧Hid (q * a+r=R∧Q3≤q∧q≤4294967297∧r < 4294967296)) (fun vq _=>(RowKit.intOf vq).toNat)
   case atStart=>exact ⟨q3,R - p3,rfl,by go_num,hide ⟨G2.out.2.2.1,G2.out.1,G2.out.2.1,by have:=G2.out.2.2.2;omega⟩⟩
   case round=>
    obtain ⟨q,r,rfl,rfl,HR⟩:=hrel
    obtain ⟨hq,r1,r2,r3⟩:=HR.out
    obtain ⟨p,hp⟩:∃p,q * b=p:=⟨_,rfl⟩
    have way:=HW2.out q r p hq hp r1 r2
    have eqb:q < 4294967296→IntKind.u64.wrap ((q:Int) * (b:Int))=(p:Int):=by
     intro h
     have h3:p≤18446744065119617025:=by rw [←hp];exact Lib.half_mul_le (by omega) (by omega)
     rw [mulN,hp,wrapN _ (by omega)]
    have b5:(q:Int)≤18446744073709551615:=by omega
    have R2:=hide r2
    clear hp hq r1 r2 HR
    rcases way with ⟨wq,wt,wQ⟩ | ⟨wq,wr,wQ,w1,HQ⟩ | ⟨wq,wr,wQ⟩
    rotate_left
    focus
     have HQ':=hide HQ
     clear HQ
     have b3:decide ((4294967296:Int)≤(r:Int)+(a:Int))=false:=by simp;omega
     have b4:(1:Int)≤(q:Int):=by omega
     have K:=hide (And.intro wr wQ)
     rcases wq with wq | ⟨wq,wt⟩
     ·have b1:decide ((4294967296:Int)≤(q:Int))=true:=by simp;omega
      clear eqb wq wr wQ
      go_wp2
      go_round
      case rel=>exact ⟨q - 1,r+a,by go_num,by go_num,hide ⟨HQ'.out,K.out.2,by have:=R2.out;omega,K.out.1⟩⟩
      case measure=>simp [RowKit.intOf];omega
     ·have eqp:=eqb wq
      have b1:decide ((4294967296:Int)≤(q:Int))=false:=by simp;omega
      have b2:decide ((4294967296:Int) * (r:Int)+(d0:Int) < (p:Int))=true:=by simp;omega
      clear eqb wq wr wQ wt
      go_wp2
      go_round
      case rel=>exact ⟨q - 1,r+a,by go_num,by go_num,hide ⟨HQ'.out,K.out.2,by have:=R2.out;omega,K.out.1⟩⟩
      case measure=>simp [RowKit.intOf];omega
    focus
     have b3:decide ((4294967296:Int)≤(r:Int)+(a:Int))=true:=by simp;omega
     have b4:(1:Int)≤(q:Int):=by omega
     have b6:(q:Int) - 1=(Q3:Int):=by omega
     clear wQ
     rcases wq with wq | ⟨wq,wt⟩
     focus
      have b1:decide ((4294967296:Int)≤(q:Int))=true:=by simp;omega
      clear eqb wq wr
      go_wp2_with fail
     rotate_left
     focus
      have eqp:=eqb wq
      have b1:decide ((4294967296:Int)≤(q:Int))=false:=by simp;omega
      have b2:decide ((4294967296:Int) * (r:Int)+(d0:Int) < (p:Int))=true:=by simp;omega
      clear eqb wq wr wt
      go_wp2_with fail
    rotate_left
    rotate_left
    focus
     subst wQ
     have eqp:=eqb wq
     have b1:decide ((4294967296:Int)≤(Q3:Int))=false:=by simp;omega
     have b2:decide ((4294967296:Int) * (r:Int)+(d0:Int) < (p:Int))=false:=by simp;omega
     clear eqb wq wt
     go_wp2_with fail
    all_goals
     have f1:(Q:Int) * 4294967296+(Q3:Int)=(((hi * 18446744073709551616+lo) / y:Nat):Int):=by have:=FQ.out;omega
     have f2:(R3:Int) / 2 ^ s=(((hi * 18446744073709551616+lo) % y:Nat):Int):=by
      rw [←FR.out,Int.natCast_ediv,Int.natCast_pow];rfl
     simp only [f1,f2]
     go_ret2
     exact ⟨rfl,0,rfl⟩
theorem div64_any (hi lo y:Nat) (hlo:lo < 18446744073709551616) (hy2:y < 9223372036854775808) (hhi:hi < y) (w:World) :
  Calls Tryz.prog 164 #[.int .u64 hi,.int .u64 lo,.int .u64 y] w fun e w'=>e=.returned (.tuple #[.int .u64 (((hi * 18446744073709551616+lo) / y:Nat):Int),.int .u64 (((hi * 18446744073709551616+lo) % y:Nat):Int)])∧∃n,w'=w.drewN n:=by
 by_cases h:hi=0
 ·subst h
  have:=div64_small lo y hlo hhi hy2 w
  rw [show ((0:Nat):Int)=0 from rfl]
  simpa only [Nat.zero_mul,Nat.zero_add] using this
 ·exact div64_big hi lo y _ hlo hy2 (by omega) hhi w rfl
end Go.Proofs.YtpaadbnlhapdbaaGreatDoor
namespace Go.Proofs.YtpaadbnlhapdbaaGreatDoor
open Go.RowKit
def mag (a b:Int):Nat:=a.natAbs * b.natAbs
def signB (a b:Int):Bool:=decide (a < 0) == decide (b < 0)
def dvB (a b c:Int):Bool:=decide (1≤c∧mag a b / c.toNat≤1099511627776)
def dvQ (a b c:Int):Int:=
 if dvB a b c then (if signB a b then (mag a b / c.toNat:Nat) else if mag a b % c.toNat=0 then -((mag a b / c.toNat:Nat):Int) else -((mag a b / c.toNat:Nat):Int) - 1) else 0
def dvR (a b c:Int):Int:=
 if dvB a b c then (if signB a b then (mag a b % c.toNat:Nat) else if mag a b % c.toNat=0 then 0 else c - ((mag a b % c.toNat:Nat):Int)) else 0
theorem mag_hi (m k:Nat) (h:k≤m / 18446744073709551616) (hk:1≤k):1099511627776 < m / k:=by
 have h1:k * 18446744073709551616≤m:=(Nat.le_div_iff_mul_le (by omega)).1 h
 have h2:18446744073709551616≤m / k:=(Nat.le_div_iff_mul_le hk).2 (by rw [Nat.mul_comm];exact h1)
 omega
set_option maxHeartbeats 1000000 in
theorem divide_walk (a b:Int) (k m q t:Nat) (a1:-9223372036854775808≤a) (a2:a≤9223372036854775807) (b1:-9223372036854775808≤b) (b2:b≤9223372036854775807)
  (k1:1≤k) (k2:k≤9223372036854775807) (hm:m=a.natAbs * b.natAbs) (hq:q=m / k) (ht:t=m % k) (sg:Bool) (hsg:(decide (a < 0) == decide (b < 0))=sg) (w:World) :
  Calls Tryz.prog 124 #[.int .i64 a,.int .i64 b,.int .i64 k] w fun e w'=>
   e=.returned (if q≤1099511627776 then (if sg then .tuple #[.int .i64 q,.int .i64 t,.bool true] else if t=0 then .tuple #[.int .i64 (-(q:Int)),.int .i64 0,.bool true] else .tuple #[.int .i64 (-(q:Int) - 1),.int .i64 ((k:Int) - (t:Int)),.bool true]) else .tuple #[.int .i64 0,.int .i64 0,.bool false])∧∃n,w'=w.drewN n:=by
 have hA:a.natAbs < 18446744073709551616:=by omega
 have hB:b.natAbs < 18446744073709551616:=by omega
 have CA:=hide (fun w=>size_any a a1 a2 w)
 have CB:=hide (fun w=>size_any b b1 b2 w)
 have cm:=fun w=>mul64_any a.natAbs b.natAbs hA hB w
 rw [←hm] at cm
 have hl:m % 18446744073709551616 < 18446744073709551616:=Nat.mod_lt _ (by omega)
 have htk:t < k:=by rw [ht];exact Nat.mod_lt _ (by omega)
 have cd:=fun (h:m / 18446744073709551616 < k) w=>div64_any (m / 18446744073709551616) (m % 18446744073709551616) k hl (by omega) h w
 rw [show m / 18446744073709551616 * 18446744073709551616+m % 18446744073709551616=m by omega,←hq,←ht] at cd
 have hbig:=fun h=>mag_hi m k h k1
 rw [←hq] at hbig
 obtain ⟨x,hx⟩:∃x,m / 18446744073709551616=x:=⟨_,rfl⟩
 obtain ⟨z,hz⟩:∃z,m % 18446744073709551616=z:=⟨_,rfl⟩
 rw [hx] at cm cd hbig
 rw [hz] at cm cd
 have CM:=hide cm
 have CD:=hide cd
 clear cm cd hx hz hm hq ht hl hA hB
 by_cases hxk:k≤x
 ·have hb:=hbig hxk
  rw [if_neg (by omega)]
  clear hbig hsg
  go_enter Tryz.func124,Tryz.ntmps124
  go_wp2_with fail
  refine (CA.out _).mono ?_
  rintro e w' ⟨rfl,rfl⟩
  go_wp2_with fail
  refine (CB.out _).mono ?_
  rintro e w' ⟨rfl,rfl⟩
  go_wp2_with fail
  refine (CM.out _).mono ?_
  rintro e w' ⟨rfl,rfl⟩
  go_wp2
  go_ret3
  exact ⟨rfl,0,rfl⟩
 have CE:=hide (CD.out (by omega))
 clear CD hbig
 by_cases hbg:q≤1099511627776
 ·rw [if_pos hbg]
  cases sg
  ·rw [if_neg (by simp)]
   by_cases ht0:t=0
   ·rw [if_pos ht0]
    have ht1:((t:Int) == 0)=true:=by rw [beq_iff_eq];omega
    clear ht0
    go_enter Tryz.func124,Tryz.ntmps124
    go_wp2_with fail
    refine (CA.out _).mono ?_
    rintro e w' ⟨rfl,rfl⟩
    go_wp2_with fail
    refine (CB.out _).mono ?_
    rintro e w' ⟨rfl,rfl⟩
    go_wp2_with fail
    refine (CM.out _).mono ?_
    rintro e w' ⟨rfl,rfl⟩
    go_wp2_with fail
    refine (CE.out _).mono ?_
    rintro e w' ⟨rfl,n,rfl⟩
    go_wp2
    go_ret3
    exact ⟨rfl,n,rfl⟩
   ·rw [if_neg ht0]
    have ht1:((t:Int) == 0)=false:=by rw [beq_eq_false_iff_ne];omega
    clear ht0
    go_enter Tryz.func124,Tryz.ntmps124
    go_wp2_with fail
    refine (CA.out _).mono ?_
    rintro e w' ⟨rfl,rfl⟩
    go_wp2_with fail
    refine (CB.out _).mono ?_
    rintro e w' ⟨rfl,rfl⟩
    go_wp2_with fail
    refine (CM.out _).mono ?_
    rintro e w' ⟨rfl,rfl⟩
    go_wp2_with fail
    refine (CE.out _).mono ?_
    rintro e w' ⟨rfl,n,rfl⟩
    go_wp2
    go_ret3
    exact ⟨rfl,n,rfl⟩
  ·rw [if_pos rfl]
   go_enter Tryz.func124,Tryz.ntmps124
   go_wp2_with fail
   refine (CA.out _).mono ?_
   rintro e w' ⟨rfl,rfl⟩
   go_wp2_with fail
   refine (CB.out _).mono ?_
   rintro e w' ⟨rfl,rfl⟩
   go_wp2_with fail
   refine (CM.out _).mono ?_
   rintro e w' ⟨rfl,rfl⟩
   go_wp2_with fail
   refine (CE.out _).mono ?_
   rintro e w' ⟨rfl,n,rfl⟩
   go_wp2
   go_ret3
   exact ⟨rfl,n,rfl⟩
 ·rw [if_neg hbg]
  clear hsg
  go_enter Tryz.func124,Tryz.ntmps124
  go_wp2_with fail
  refine (CA.out _).mono ?_
  rintro e w' ⟨rfl,rfl⟩
  go_wp2_with fail
  refine (CB.out _).mono ?_
  rintro e w' ⟨rfl,rfl⟩
  go_wp2_with fail
  refine (CM.out _).mono ?_
  rintro e w' ⟨rfl,rfl⟩
  go_wp2_with fail
  refine (CE.out _).mono ?_
  rintro e w' ⟨rfl,n,rfl⟩
  go_wp2
  go_ret3
  exact ⟨rfl,n,rfl⟩
theorem divide_any (a b c:Int) (a1:-9223372036854775808≤a) (a2:a≤9223372036854775807) (b1:-9223372036854775808≤b) (b2:b≤9223372036854775807)
  (c2:c≤9223372036854775807) (w:World) :
  Calls Tryz.prog 124 #[.int .i64 a,.int .i64 b,.int .i64 c] w fun e w'=>
   e=.returned (.tuple #[.int .i64 (dvQ a b c),.int .i64 (dvR a b c),.bool (dvB a b c)])∧∃n,w'=w.drewN n:=by
 by_cases hc:c < 1
 ·have e0:dvB a b c=false:=by unfold dvB;simp;omega
  have e1:dvQ a b c=0:=by unfold dvQ;rw [e0];rfl
  have e2:dvR a b c=0:=by unfold dvR;rw [e0];rfl
  rw [e0,e1,e2]
  go_enter Tryz.func124,Tryz.ntmps124
  go_wp2
  go_ret3
  exact ⟨rfl,0,rfl⟩
 ·obtain ⟨k,rfl⟩:∃k:Nat,c=k:=⟨c.toNat,by omega⟩
  have h:=divide_walk a b k (mag a b) (mag a b / k) (mag a b % k) a1 a2 b1 b2 (by omega) (by omega) rfl rfl rfl (signB a b) rfl w
  refine h.mono ?_
  rintro e w' ⟨rfl,hw⟩
  refine ⟨?_,hw⟩
  have eB:dvB a b k=decide (mag a b / k≤1099511627776):=by
   unfold dvB;rw [Int.toNat_natCast];simp;omega
  unfold dvQ dvR
  rw [eB,Int.toNat_natCast]
  by_cases h1:mag a b / k≤1099511627776
  ·simp only [if_pos h1,decide_eq_true h1,if_true]
   cases signB a b
   ·by_cases h2:mag a b % k=0
    ·simp [h2]
    ·simp [h2]
   ·simp
  ·simp [h1]
theorem dv_bd (a b c:Int) (h:dvB a b c=true):1≤c∧-1099511627777≤dvQ a b c∧dvQ a b c≤1099511627776∧0≤dvR a b c∧dvR a b c < c:=by
 have h0:=h
 unfold dvB at h0
 simp only [decide_eq_true_eq] at h0
 obtain ⟨h1,h2⟩:=h0
 have hm:mag a b % c.toNat < c.toNat:=Nat.mod_lt _ (by omega)
 unfold dvQ dvR
 rw [h]
 generalize mag a b % c.toNat=t at *
 generalize mag a b / c.toNat=q at *
 simp only [if_true]
 cases signB a b
 ·by_cases ht:t=0
  ·simp [ht];omega
  ·simp [ht];omega
 ·simp;omega
def scQ (a b c:Int):Int:=if c - dvR a b c≤dvR a b c then dvQ a b c+1 else dvQ a b c
def scB (a b c:Int):Bool:=dvB a b c && inB (scQ a b c)
def scV (a b c:Int):Int:=if dvB a b c then tolV (scQ a b c) else 0
theorem scale_any (a b c:Int) (a1:-9223372036854775808≤a) (a2:a≤9223372036854775807) (b1:-9223372036854775808≤b) (b2:b≤9223372036854775807)
  (c2:c≤9223372036854775807) (w:World) :
  Calls Tryz.prog 86 #[.int .i64 a,.int .i64 b,.int .i64 c] w fun e w'=>
   e=.returned (.tuple #[.int .i64 (scV a b c),.bool (scB a b c)])∧∃n,w'=w.drewN n:=by
 have c0:=fun w=>divide_any a b c a1 a2 b1 b2 c2 w
 cases h:dvB a b c
 ·rw [h] at c0
  rw [show scV a b c=0 by simp [scV,h],show scB a b c=false by simp [scB,h]]
  have C:=hide c0
  clear c0
  go_enter Tryz.func86,Tryz.ntmps86
  go_wp2_with fail
  refine (C.out _).mono ?_
  rintro e w' ⟨rfl,n,rfl⟩
  go_wp2
  go_ret2
  exact ⟨rfl,n,rfl⟩
 ·rw [h] at c0
  have bd:=dv_bd a b c h
  rw [show scV a b c=tolV (scQ a b c) by simp [scV,h],show scB a b c=inB (scQ a b c) by simp [scB,h]]
  unfold scQ
  generalize dvQ a b c=q at *
  generalize dvR a b c=r at *
  have C:=hide c0
  clear c0 h
  by_cases hr:c - r≤r
  ·rw [if_pos hr]
   go_enter Tryz.func86,Tryz.ntmps86
   go_wp2_with fail
   refine (C.out _).mono ?_
   rintro e w' ⟨rfl,n,rfl⟩
   go_wp2_with (go_at_call 52;refine (ifIn_any _ _).mono ?_;rintro e w' ⟨rfl,rfl⟩)
   go_ret2
   exact ⟨rfl,n,rfl⟩
  ·rw [if_neg hr]
   go_enter Tryz.func86,Tryz.ntmps86
   go_wp2_with fail
   refine (C.out _).mono ?_
   rintro e w' ⟨rfl,n,rfl⟩
   go_wp2_with (go_at_call 52;refine (ifIn_any _ _).mono ?_;rintro e w' ⟨rfl,rfl⟩)
   go_ret2
   exact ⟨rfl,n,rfl⟩
end Go.Proofs.YtpaadbnlhapdbaaGreatDoor
