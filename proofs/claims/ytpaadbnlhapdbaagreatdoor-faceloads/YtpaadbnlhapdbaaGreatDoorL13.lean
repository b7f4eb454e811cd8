/-
  Joined: C11F, C11Fi, C11T, C11G, C11R, C11Ro.
-/
import Derived.Deep.AppendLies
import Derived.Lib.MinMax
import Derived.Test.YtpaadbnlhapdbaaGreatDoorL10
import Derived.Test.YtpaadbnlhapdbaaGreatDoorL11
namespace Go.Proofs.YtpaadbnlhapdbaaGreatDoor.C11
open Go.RowKit Go.Deep
set_option linter.unusedVariables false
def CLst (w:World) (a:Option Addr) (cs:List Ch):Prop:=
 cs=[]∨∃b off,a=some ⟨b,off,none⟩∧b < w.heap.size∧∀i,i < cs.length→w.cell? ⟨b,off+i * 3,none⟩=some (.int .i64 (cs.getD i c0).f)∧w.cell? ⟨b,off+i * 3+1,none⟩=some (.int .i64 (cs.getD i c0).l)∧w.cell? ⟨b,off+i * 3+2,none⟩=some (.int .i64 (cs.getD i c0).g)
theorem CLst.below {w w':World} {a:Option Addr} {cs:List Ch} (h:CLst w a cs) (hb:Below w.heap.size w w'):CLst w' a cs:=by
 rcases h with h | ⟨b,off,h1,h2,h3⟩
 ·exact Or.inl h
 ·refine Or.inr ⟨b,off,h1,Nat.lt_of_lt_of_le h2 hb.size,fun i hi=>?_⟩
  obtain ⟨x,y,z⟩:=h3 i hi
  exact ⟨by rw [hb.cell (p:=⟨b,_,none⟩) h2];exact x,by rw [hb.cell (p:=⟨b,_,none⟩) h2];exact y,by rw [hb.cell (p:=⟨b,_,none⟩) h2];exact z⟩
def R64 (z:Int):Prop:=-9223372036854775808≤z∧z≤9223372036854775807
def RC (x:Ch):Prop:=R64 x.f∧R64 x.l∧R64 x.g
theorem hp_any (f l g:Int) (w:World):Calls Tryz.prog 129 #[.agg #[.int .i64 f,.int .i64 l,.int .i64 g]] w fun e w'=>e=.returned (.bool (hpB ⟨f,l,g⟩))∧Below w.heap.size w w':=by
 have C:=hide isPt_any
 have HB:=hide ((Below.refl w.heap.size w).alloc (Nat.le_refl _) (.cells #[.int .i64 f,.int .i64 l,.int .i64 g] 68))
 unfold hpB
 cases h1:isP f
 ·simp only [Bool.false_and]
  go_enter Tryz.func129,Tryz.ntmps129
  go_wp2_with (go_at_call 168;refine (C.out _ _).mono ?_;rintro e w' ⟨rfl,rfl⟩)
  go_ret
  exact ⟨rfl,HB.out⟩
 cases h2:isP l
 ·simp only [Bool.true_and,Bool.false_and]
  go_enter Tryz.func129,Tryz.ntmps129
  go_wp2_with (go_at_call 168;refine (C.out _ _).mono ?_;rintro e w' ⟨rfl,rfl⟩)
  go_ret
  exact ⟨rfl,HB.out⟩
 simp only [Bool.true_and]
 cases h3:decide (f < 55296) <;> cases h4:decide (l < 55296)
 all_goals
  go_enter Tryz.func129,Tryz.ntmps129
  go_wp2_with (go_at_call 168;refine (C.out _ _).mono ?_;rintro e w' ⟨rfl,rfl⟩)
  go_ret
  exact ⟨rfl,HB.out⟩
theorem fits_any (f l g n:Int) (w:World) (hn:n≤9223372036854775807):Calls Tryz.prog 94 #[.agg #[.int .i64 f,.int .i64 l,.int .i64 g],.int .i64 n] w fun e w'=>e=.returned (.bool (fitB ⟨f,l,g⟩ n))∧Below w.heap.size w w':=by
 have C:=hide (hp_any f l g)
 have HB:=hide ((Below.refl w.heap.size w).alloc (Nat.le_refl _) (.cells #[.int .i64 f,.int .i64 l,.int .i64 g] 68))
 have HF:=hide (@fitB_hp ⟨f,l,g⟩ n)
 have HFt:=hide (@fitB_t ⟨f,l,g⟩ n)
 obtain ⟨R,hR⟩:∃R,fitB ⟨f,l,g⟩ n=R:=⟨_,rfl⟩
 rw [hR] at HF HFt ⊢
 clear hR
 obtain ⟨H,hH⟩:∃H,hpB ⟨f,l,g⟩=H:=⟨_,rfl⟩
 have hpb:H=true→(0≤f∧f≤1114111)∧(0≤l∧l≤1114111):=fun h=>by
  rw [←hH] at h;unfold hpB at h;simp only [Bool.and_eq_true,isP_t] at h;omega
 have HPB:=hide hpb
 clear hpb
 rw [hH] at C HF
 clear hH
 by_cases h1:f≤l
 case neg=>
  have h1':decide (f≤l)=false:=by simp;omega
  have E:Hid (R=false):=hide (by cases R;rfl;exact absurd (HF.out.1 rfl).1 h1)
  clear h1 HF HFt
  go_enter Tryz.func94,Tryz.ntmps94
  go_wp2_with fail
  go_ret
  exact ⟨by rw [E.out];rfl,HB.out⟩
 cases hH:H
 case false=>
  subst hH
  have E:Hid (R=false):=hide (by cases R;rfl;exact absurd (HF.out.1 rfl).2.1 (by simp))
  clear HF HFt
  go_enter Tryz.func94,Tryz.ntmps94
  go_wp2_with fail
  refine (C.out _).mono ?_
  rintro e w1 ⟨rfl,hb1⟩
  have HB1:=hide (HB.out.trans (hb1.mono (by simp)))
  have HZ:=hide ((Blk.new w #[.int .i64 f,.int .i64 l,.int .i64 g] 68).below hb1)
  clear hb1
  go_wp2_with fail
  go_ret
  exact ⟨by rw [E.out];rfl,HB1.out⟩
 subst hH
 have b0:Hid (R=true↔(1≤g∧g < n∧l - f < n - g)):=hide ⟨fun h=>(HF.out.1 h).2.2,fun h=>HF.out.2 ⟨h1,rfl,h⟩⟩
 obtain ⟨⟨f0,f1⟩,l0,l1⟩:=HPB.out rfl
 clear HF HFt HPB
 by_cases h2:1≤g
 case neg=>
  have h2':decide (1≤g)=false:=by simp;omega
  have E:Hid (R=false):=hide (by cases R;rfl;exact absurd (b0.out.1 rfl).1 h2)
  clear h2 b0
  go_enter Tryz.func94,Tryz.ntmps94
  go_wp2_with fail
  refine (C.out _).mono ?_
  rintro e w1 ⟨rfl,hb1⟩
  have HB1:=hide (HB.out.trans (hb1.mono (by simp)))
  have hz:=(Blk.new w #[.int .i64 f,.int .i64 l,.int .i64 g] 68).below hb1
  have z2:w1.cell? ⟨w.heap.size,2,none⟩=some (.int .i64 g):=hz.cell 2
  clear hb1 hz
  go_wp2_with fail
  go_ret
  exact ⟨by rw [E.out];rfl,HB1.out⟩
 by_cases h3:g < n
 case neg=>
  have h3':decide (g < n)=false:=by simp;omega
  have E:Hid (R=false):=hide (by cases R;rfl;exact absurd (b0.out.1 rfl).2.1 h3)
  clear h3 b0
  go_enter Tryz.func94,Tryz.ntmps94
  go_wp2_with fail
  refine (C.out _).mono ?_
  rintro e w1 ⟨rfl,hb1⟩
  have HB1:=hide (HB.out.trans (hb1.mono (by simp)))
  have hz:=(Blk.new w #[.int .i64 f,.int .i64 l,.int .i64 g] 68).below hb1
  have z2:w1.cell? ⟨w.heap.size,2,none⟩=some (.int .i64 g):=hz.cell 2
  clear hb1 hz
  go_wp2_with fail
  go_ret
  exact ⟨by rw [E.out];rfl,HB1.out⟩
 have E:Hid (R=decide (l - f < n - g)):=hide (by
  cases hd:decide (l - f < n - g)
  ·cases R
   ·rfl
   ·have:=(b0.out.1 rfl).2.2;simp at hd;omega
  ·exact b0.out.2 ⟨h2,h3,by simpa using hd⟩)
 clear b0
 go_enter Tryz.func94,Tryz.ntmps94
 go_wp2_with fail
 refine (C.out _).mono ?_
 rintro e w1 ⟨rfl,hb1⟩
 have HB1:=hide (HB.out.trans (hb1.mono (by simp)))
 have hz:=(Blk.new w #[.int .i64 f,.int .i64 l,.int .i64 g] 68).below hb1
 have z0:w1.cell? ⟨w.heap.size,0,none⟩=some (.int .i64 f):=hz.cell 0
 have z1:w1.cell? ⟨w.heap.size,1,none⟩=some (.int .i64 l):=hz.cell 1
 have z2:w1.cell? ⟨w.heap.size,2,none⟩=some (.int .i64 g):=hz.cell 2
 clear hb1 hz
 go_wp2_with fail
 go_ret
 exact ⟨by rw [E.out];rfl,HB1.out⟩
theorem goes_any (f l g c q:Int) (w:World) (f0:0≤f) (fl:f≤l) (l1:l≤1114111) (g0:1≤g) (g1:g+l - f+1≤9223372036854775807) :
  Calls Tryz.prog 95 #[.agg #[.int .i64 f,.int .i64 l,.int .i64 g],.int .i64 c,.int .i64 q] w fun e w'=>e=.returned (.bool (goB ⟨f,l,g⟩ c q))∧Below w.heap.size w w':=by
 have HB:=hide ((Below.refl w.heap.size w).alloc (Nat.le_refl _) (.cells #[.int .i64 f,.int .i64 l,.int .i64 g] 68))
 by_cases h1:c=l+1
 case neg=>
  rw [goB_f.2 (fun h=>h1 h.1)]
  have h1':(c == l+1)=false:=by simpa using h1
  clear h1 g1
  go_enter Tryz.func95,Tryz.ntmps95
  go_wp2_with fail
  go_ret
  exact ⟨rfl,HB.out⟩
 have hv:goB ⟨f,l,g⟩ c q=(q == g+l - f+1):=by
  unfold goB
  rw [Bool.eq_iff_iff,decide_eq_true_iff,beq_iff_eq]
  exact ⟨fun h=>h.2,fun h=>⟨h1,h⟩⟩
 rw [hv]
 obtain ⟨A,hA⟩:∃A,wrap64 (g+l)=A:=⟨_,rfl⟩
 have hB:wrap64 (A - f)=g+l - f:=by rw [←hA];unfold wrap64 at *;omega
 obtain ⟨B,hBB⟩:∃B,g+l - f=B:=⟨_,rfl⟩
 rw [hBB] at hB ⊢ g1
 have b0:0≤B:=by omega
 have b1:B+1≤9223372036854775807:=g1
 subst h1
 clear hv g1 hBB
 clear g0
 go_enter Tryz.func95,Tryz.ntmps95
 go_wp2_with fail
 go_ret
 exact ⟨rfl,HB.out⟩
theorem below_d {V a b x:World} (h:Below V.heap.size V a) (hx:Below b.heap.size b x) (e0:b.os=a.os) (e1:b.tape=a.tape) (e2:b.output=a.output) (e3:b.heap=a.heap):Below V.heap.size V x:=
 h.trans ⟨hx.os.trans e0,hx.tape.trans e1,hx.output.trans e2,by rw [←e3];exact hx.size,fun k hk=>by rw [hx.block k (by rw [e3];exact Nat.lt_of_lt_of_le hk h.size),e3]⟩
theorem wrap_u64 (n:Int):IntKind.u64.wrap n=n % 18446744073709551616:=by
 simp only [IntKind.wrap,IntKind.bits,IntKind.signed]
 simp
set_option maxHeartbeats 1000000 in
theorem find_any (a:Option Addr) (cs:List Ch) (len cap:Nat) (c:Int) (w:World) (hl:cs.length=len) (hm:len≤1073741824) (hc:R64 c) (hr:∀i,i < cs.length→RC (cs.getD i c0)) (hL:CLst w a cs) :
  Calls Tryz.prog 24 #[.slice a len cap,.int .i64 c] w fun e w'=>e=.returned (.int .i64 (finV cs c))∧Below w.heap.size w w':=by
 have hm':(len:Int)≤1073741824:=by omega
 have HL:=hide hL
 have HN:=hide hl
 have HR:=hide hr
 have HC:=hide hc
 clear hL hl hm hr hc
 go_enter Tryz.func24,Tryz.ntmps24
 go_wp2_with fail
 go_loopw [10] (fun vi wr=>∃(k:Nat),vi=.int .i64 k∧Hid (k≤len∧finV cs c=finV (cs.drop k) c∧Below w.heap.size w wr)) (fun vi _=>len - (intOf vi).toNat)
 case atStart=>exact ⟨0,rfl,hide ⟨by omega,rfl,Below.refl _ _⟩⟩
 case round=>
  obtain ⟨k,rfl,HV⟩:=hrel
  obtain ⟨hk,hv,hb⟩:=HV.out
  have hk0:(0:Int)≤(k:Int):=by omega
  have HB:=hide hb
  have HF:=hide hv
  clear HV hv
  by_cases hlt:k < len
  case neg=>
   have hlt':¬(k:Int) < (len:Int):=by omega
   have E:Hid (finV cs c=0):=hide (by rw [HF.out,List.drop_eq_nil_of_le (by have:=HN.out;omega)];rfl)
   clear HF hb
   go_wp2_with fail
   go_ret
   exact ⟨by rw [E.out];rfl,HB.out⟩
  have hlt':(k:Int) < (len:Int):=by omega
  rcases HL.out with hz | ⟨b,o,rfl,hbl,hcell⟩
  ·have:=HN.out;rw [hz] at this;simp at this;omega
  obtain ⟨z0,z1,z2⟩:=hcell k (by have:=HN.out;omega)
  rw [←hb.cell (p:=⟨b,_,none⟩) hbl] at z0 z1 z2
  have zb:b < wr.heap.size:=Nat.lt_of_lt_of_le hbl hb.size
  have HD:=hide (HF.out.trans (by rw [dropC cs k (by have:=HN.out;omega),finV_cons]))
  obtain ⟨⟨rf0,rf1⟩,⟨rl0,rl1⟩,rg0,rg1⟩:=HR.out k (by have:=HN.out;omega)
  obtain ⟨rc0,rc1⟩:=HC.out
  obtain ⟨x,hx⟩:∃x,cs.getD k c0=x:=⟨_,rfl⟩
  rw [hx] at z0 z1 z2 HD rf0 rf1 rl0 rl1 rg0 rg1
  clear hx hcell
  obtain ⟨f,l,g⟩:=x
  simp only at z0 z1 z2 rf0 rf1 rl0 rl1 rg0 rg1
  have HB2:=hide (HB.out.alloc HB.out.size (.cells #[.int .i64 f,.int .i64 l,.int .i64 g] 68))
  by_cases q1:c < f
  ·have E:Hid (finV cs c=finV (cs.drop (k+1)) c):=hide (by rw [HD.out,if_neg];simp [hit];omega)
   clear HD HF rf0 rf1 rl0 rl1 rg0 rg1 rc0 rc1 hb
   go_wp2_with fail
   go_roundw
   case rel=>exact ⟨k+1,by go_num,hide ⟨by omega,E.out,HB2.out⟩⟩
   case measure=>simp [intOf];omega
  have q1':decide (c < f)=false:=by simp;omega
  by_cases q2:l < c
  ·have E:Hid (finV cs c=finV (cs.drop (k+1)) c):=hide (by rw [HD.out,if_neg];simp [hit];omega)
   clear HD HF rf0 rf1 rl0 rl1 rg0 rg1 rc0 rc1 hb q1
   go_wp2_with fail
   go_roundw
   case rel=>exact ⟨k+1,by go_num,hide ⟨by omega,E.out,HB2.out⟩⟩
   case measure=>simp [intOf];omega
  have q2':decide (l < c)=false:=by simp;omega
  have E0:=hide (show finV cs c=hitV ⟨f,l,g⟩ c by rw [HD.out,if_pos];simp [hit];omega)
  obtain ⟨CU,u1⟩:∃y,IntKind.u64.wrap c=y:=⟨_,rfl⟩
  obtain ⟨FU,u2⟩:∃y,IntKind.u64.wrap f=y:=⟨_,rfl⟩
  obtain ⟨d,hd⟩:∃y,c - f=y:=⟨_,rfl⟩
  have d0:0≤d:=by omega
  have d1:d≤18446744073709551615:=by omega
  have u3:IntKind.u64.wrap (CU - FU)=d:=by rw [←u1,←u2,←hd];rw [wrap_u64,wrap_u64,wrap_u64];omega
  have EV:Hid (hitV ⟨f,l,g⟩ c=if 1≤g+d∧g+d≤4095 then g+d else 0):=hide (by unfold hitV;simp only;rw [show g+c - f=g+d by omega])
  clear HD HF hb q1 q2 rf0 rf1 rl0 rl1 rc0 rc1
  by_cases q3:4095 < g
  ·have E:Hid (finV cs c=0):=hide (by rw [E0.out,EV.out,if_neg (by omega)])
   clear E0 EV rg0 rg1 hd
   go_wp2_with fail
   go_ret
   exact ⟨by rw [E.out];rfl,HB2.out⟩
  have q3':decide (4095 < g)=false:=by simp;omega
  obtain ⟨GU,u4⟩:∃y,IntKind.u64.wrap g=y:=⟨_,rfl⟩
  obtain ⟨r,hr⟩:∃y,4095 - g=y:=⟨_,rfl⟩
  have u5:IntKind.u64.wrap (4095 - GU)=r:=by rw [←u4,←hr];rw [wrap_u64,wrap_u64];omega
  by_cases q4:r < d
  ·have E:Hid (finV cs c=0):=hide (by rw [E0.out,EV.out,if_neg (by omega)])
   clear E0 EV rg0 rg1 hd hr q3
   go_wp2_with fail
   go_ret
   exact ⟨by rw [E.out];rfl,HB2.out⟩
  have q4':decide (r < d)=false:=by simp;omega
  obtain ⟨v,hv⟩:∃y,g+d=y:=⟨_,rfl⟩
  obtain ⟨SU,u6⟩:∃y,IntKind.u64.wrap (GU+d)=y:=⟨_,rfl⟩
  have u7:IntKind.i64.wrap SU=v:=by rw [←u6,←u4,←hv];rw [wrap_u64,wrap_u64,IntKind.wrap_i64];omega
  have E:Hid (finV cs c=max 0 v):=hide (by rw [E0.out,EV.out,hv];split <;> omega)
  clear E0 EV rg0 rg1 hd hr q3 q4 hv d0 d1
  go_wp2_with fail
  go_ret
  exact ⟨by rw [E.out];rfl,HB2.out⟩
set_option maxHeartbeats 1000000 in
theorem good_any (a:Option Addr) (cs:List Ch) (len cap:Nat) (n:Int) (w:World) (hl:cs.length=len) (hm:len≤1073741824) (hn:R64 n) (hL:CLst w a cs) :
  Calls Tryz.prog 56 #[.slice a len cap,.int .i64 n] w fun e w'=>e=.returned (.bool (gooB cs n))∧Below w.heap.size w w':=by
 have hm':(len:Int)≤1073741824:=by omega
 by_cases hlong:len≤4096
 case neg=>
  have E:=hide (gooB_long (cs:=cs) (n:=n) (by omega))
  have t:(4096:Int) < (len:Int):=by omega
  go_enter Tryz.func56,Tryz.ntmps56
  go_wp2_with fail
  go_ret
  exact ⟨by rw [E.out];rfl,Below.refl _ _⟩
 have t:¬(4096:Int) < (len:Int):=by omega
 have HL:=hide hL
 have HN:=hide hl
 have HG:=hide hn
 have CF:=hide (fun f l g w=>fits_any f l g n w hn.2)
 clear hL hl hm hn
 go_enter Tryz.func56,Tryz.ntmps56
 go_wp2_with fail
 go_loopw [12] (fun vi wr=>∃(k:Nat),vi=.int .i64 k∧Hid (k≤len∧(∀j,j < k→okB cs n j=true)∧Below w.heap.size w wr)) (fun vi _=>len - (intOf vi).toNat)
 case atStart=>exact ⟨0,rfl,hide ⟨by omega,fun j hj=>by omega,Below.refl _ _⟩⟩
 case round=>
  obtain ⟨k,rfl,HV⟩:=hrel
  obtain ⟨hk,hv,hb⟩:=HV.out
  have hk0:(0:Int)≤(k:Int):=by omega
  have HB:=hide hb
  have HF:=hide hv
  clear HV hv
  by_cases hlt:k < len
  case neg=>
   have hlt':¬(k:Int) < (len:Int):=by omega
   have E:Hid (gooB cs n=true):=hide (gooB_iff.2 ⟨by have:=HN.out;omega,fun i hi=>HF.out i (by have:=HN.out;omega)⟩)
   clear HF hb
   go_wp2_with fail
   go_ret
   exact ⟨by rw [E.out];rfl,HB.out⟩
  have hlt':(k:Int) < (len:Int):=by omega
  rcases HL.out with hz | ⟨b,o,rfl,hbl,hcell⟩
  ·have:=HN.out;rw [hz] at this;simp at this;omega
  obtain ⟨z0,z1,z2⟩:=hcell k (by have:=HN.out;omega)
  rw [←hb.cell (p:=⟨b,_,none⟩) hbl] at z0 z1 z2
  have zb:b < wr.heap.size:=Nat.lt_of_lt_of_le hbl hb.size
  have EB:=hide (show okB cs n k=(fitB (cs.getD k c0) n && (decide (k=0) || nxB (cs.getD (k - 1) c0) (cs.getD k c0))) from rfl)
  have ENO:=hide (fun h=>gooB_no (cs:=cs) (n:=n) (i:=k) (by have:=HN.out;omega) h)
  have EYES:Hid (okB cs n k=true→∀j,j < k+1→okB cs n j=true):=hide (fun h j hj=>by
   rcases Nat.lt_or_ge j k with h' | h'
   ·exact HF.out j h'
   ·obtain rfl:j=k:=by omega
    exact h)
  obtain ⟨x,hx⟩:∃x,cs.getD k c0=x:=⟨_,rfl⟩
  rw [hx] at z0 z1 z2 EB
  obtain ⟨f,l,g⟩:=x
  simp only at z0 z1 z2
  have HB2:=hide (HB.out.alloc HB.out.size (.cells #[.int .i64 f,.int .i64 l,.int .i64 g] 68))
  cases q1:fitB ⟨f,l,g⟩ n
  ·have E:=hide (ENO.out (by rw [EB.out,q1];rfl))
   have CF1:=hide (CF.out f l g)
   rw [q1] at CF1
   clear EB ENO EYES q1 HF hcell hx
   go_wp2_with fail
   refine (CF1.out _).mono ?_
   rintro e w1 ⟨rfl,hb1⟩
   have HB1:=hide (HB2.out.trans (hb1.mono HB2.out.size))
   clear hb1
   go_wp2_with fail
   go_ret
   exact ⟨by rw [E.out];rfl,HB1.out⟩
  have CF1:=hide (CF.out f l g)
  rw [q1] at CF1
  by_cases q0:k=0
  ·have E:=hide (EYES.out (by rw [EB.out,q1,decide_eq_true q0];rfl))
   clear EB ENO EYES q1 HF hcell hx hb
   subst q0
   simp only [Nat.zero_mul,Nat.add_zero] at z0 z1 z2
   go_wp2_with fail
   refine (CF1.out _).mono ?_
   rintro e w1 ⟨rfl,hb1⟩
   have HB1:=hide (HB2.out.trans (hb1.mono HB2.out.size))
   clear hb1
   go_wp2_with fail
   go_quiet (fail)
   go_wp2_with fail
   go_roundw
   case rel=>exact ⟨1,by go_num,hide ⟨by omega,E.out,below_drewN HB1.out _⟩⟩
   case measure=>simp [intOf];omega
  obtain ⟨j,hj⟩:∃j,k=j+1:=⟨k - 1,by omega⟩
  obtain ⟨y0,y1,y2⟩:=hcell j (by have:=HN.out;omega)
  have hok:=HF.out j (by omega)
  unfold okB at hok
  rw [Bool.and_eq_true] at hok
  rw [show k - 1=j by omega,decide_eq_false q0,Bool.false_or] at EB
  obtain ⟨y,hy⟩:∃y,cs.getD j c0=y:=⟨_,rfl⟩
  rw [hy] at y0 y1 y2 EB hok
  obtain ⟨f',l',g'⟩:=y
  simp only at y0 y1 y2
  have hfit:=fitB_t.1 hok.1
  simp only at hfit
  obtain ⟨p0,p1,p2,_,p4,p5,p6⟩:=hfit
  have hn:=HG.out
  have CG:=hide (fun w=>goes_any f' l' g' f g w p1 p0 p2 p4 (by have:=hn.2;omega))
  have EV:Hid (okB cs n k=!(decide (f≤l') || goB ⟨f',l',g'⟩ f g)):=hide (by rw [EB.out,q1];rfl)
  have k1:IntKind.i64.wrap ((k:Int) - 1)=(j:Int):=by rw [IntKind.wrap_i64];omega
  have k2:decide ((0:Int) < (k:Int))=true:=by simp;omega
  have k2':(0:Int) < (k:Int):=by omega
  have k2n:0 < k:=by omega
  have j0:(0:Int)≤(j:Int):=by omega
  have j1:(j:Int) < (len:Int):=by omega
  have HK:=hide hj
  cases q2:decide (f≤l')
  ·cases q3:goB ⟨f',l',g'⟩ f g
   ·have E:=hide (EYES.out (by rw [EV.out,q2,q3];rfl))
    rw [q3] at CG
    clear EB EV ENO EYES q1 HF hcell hx hy hok q0 p0 p1 p2 p4 p5 p6 q3 hj
    go_wp2_with fail
    refine (CF1.out _).mono ?_
    rintro e w1 ⟨rfl,hb1⟩
    have HB1:=hide (HB2.out.trans (hb1.mono HB2.out.size))
    have hz:=(Blk.new wr #[.int .i64 f,.int .i64 l,.int .i64 g] 68).below hb1
    have c0:w1.cell? ⟨wr.heap.size,0,none⟩=some (.int .i64 f):=hz.cell 0
    have c2:w1.cell? ⟨wr.heap.size,2,none⟩=some (.int .i64 g):=hz.cell 2
    rw [←HB1.out.cell (p:=⟨b,_,none⟩) hbl] at y0 y1 y2
    have zb1:b < w1.heap.size:=Nat.lt_of_lt_of_le hbl HB1.out.size
    have zs1:wr.heap.size < w1.heap.size:=hz.lt
    have KS:=hide (fun (u:World) (hu:Below w1.heap.size w1 u)=>show (b < u.heap.size∧wr.heap.size < u.heap.size)∧(u.cell? ⟨wr.heap.size,0,none⟩=some (.int .i64 f)∧u.cell? ⟨wr.heap.size,2,none⟩=some (.int .i64 g))∧u.cell? ⟨b,o+j * 3,none⟩=some (.int .i64 f')∧u.cell? ⟨b,o+j * 3+1,none⟩=some (.int .i64 l')∧u.cell? ⟨b,o+j * 3+2,none⟩=some (.int .i64 g') from
     ⟨⟨Nat.lt_of_lt_of_le zb1 hu.size,Nat.lt_of_lt_of_le zs1 hu.size⟩,⟨(hu.cell (p:=⟨wr.heap.size,0,none⟩) zs1).trans c0,(hu.cell (p:=⟨wr.heap.size,2,none⟩) zs1).trans c2⟩,(hu.cell (p:=⟨b,_,none⟩) zb1).trans y0,(hu.cell (p:=⟨b,_,none⟩) zb1).trans y1,(hu.cell (p:=⟨b,_,none⟩) zb1).trans y2⟩)
    have HV:=hide (Below.refl w1.heap.size w1)
    clear hb1 hz hb
    go_wp2_with fail
    go_region_held3 (fun x=>(b < x.heap.size∧wr.heap.size < x.heap.size)∧(x.cell? ⟨wr.heap.size,0,none⟩=some (.int .i64 f)∧x.cell? ⟨wr.heap.size,2,none⟩=some (.int .i64 g))∧x.cell? ⟨b,o+j * 3,none⟩=some (.int .i64 f')∧x.cell? ⟨b,o+j * 3+1,none⟩=some (.int .i64 l')∧x.cell? ⟨b,o+j * 3+2,none⟩=some (.int .i64 g')) (exact KS.out _ (below_d HV.out (Below.refl _ _) rfl rfl rfl rfl)) ((go_at_call 95;refine (CG.out _).mono ?_;rintro e wy ⟨rfl,hby⟩;replace HV:=hide (below_d HV.out hby rfl rfl rfl rfl);clear hby))
    go_wp2_with fail
    go_roundw
    case rel=>exact ⟨k+1,by go_num,hide ⟨by omega,E.out,HB1.out.trans (HV.out.mono HB1.out.size)⟩⟩
    case measure=>simp [intOf];omega
   ·have E:=hide (ENO.out (by rw [EV.out,q2,q3];rfl))
    rw [q3] at CG
    clear EB EV ENO EYES q1 HF hcell hx hy hok q0 p0 p1 p2 p4 p5 p6 q3 hj
    go_wp2_with fail
    refine (CF1.out _).mono ?_
    rintro e w1 ⟨rfl,hb1⟩
    have HB1:=hide (HB2.out.trans (hb1.mono HB2.out.size))
    have hz:=(Blk.new wr #[.int .i64 f,.int .i64 l,.int .i64 g] 68).below hb1
    have c0:w1.cell? ⟨wr.heap.size,0,none⟩=some (.int .i64 f):=hz.cell 0
    have c2:w1.cell? ⟨wr.heap.size,2,none⟩=some (.int .i64 g):=hz.cell 2
    rw [←HB1.out.cell (p:=⟨b,_,none⟩) hbl] at y0 y1 y2
    have zb1:b < w1.heap.size:=Nat.lt_of_lt_of_le hbl HB1.out.size
    have zs1:wr.heap.size < w1.heap.size:=hz.lt
    have KS:=hide (fun (u:World) (hu:Below w1.heap.size w1 u)=>show (b < u.heap.size∧wr.heap.size < u.heap.size)∧(u.cell? ⟨wr.heap.size,0,none⟩=some (.int .i64 f)∧u.cell? ⟨wr.heap.size,2,none⟩=some (.int .i64 g))∧u.cell? ⟨b,o+j * 3,none⟩=some (.int .i64 f')∧u.cell? ⟨b,o+j * 3+1,none⟩=some (.int .i64 l')∧u.cell? ⟨b,o+j * 3+2,none⟩=some (.int .i64 g') from
     ⟨⟨Nat.lt_of_lt_of_le zb1 hu.size,Nat.lt_of_lt_of_le zs1 hu.size⟩,⟨(hu.cell (p:=⟨wr.heap.size,0,none⟩) zs1).trans c0,(hu.cell (p:=⟨wr.heap.size,2,none⟩) zs1).trans c2⟩,(hu.cell (p:=⟨b,_,none⟩) zb1).trans y0,(hu.cell (p:=⟨b,_,none⟩) zb1).trans y1,(hu.cell (p:=⟨b,_,none⟩) zb1).trans y2⟩)
    have HV:=hide (Below.refl w1.heap.size w1)
    clear hb1 hz hb
    go_wp2_with fail
    go_region_held3 (fun x=>(b < x.heap.size∧wr.heap.size < x.heap.size)∧(x.cell? ⟨wr.heap.size,0,none⟩=some (.int .i64 f)∧x.cell? ⟨wr.heap.size,2,none⟩=some (.int .i64 g))∧x.cell? ⟨b,o+j * 3,none⟩=some (.int .i64 f')∧x.cell? ⟨b,o+j * 3+1,none⟩=some (.int .i64 l')∧x.cell? ⟨b,o+j * 3+2,none⟩=some (.int .i64 g')) (exact KS.out _ (below_d HV.out (Below.refl _ _) rfl rfl rfl rfl)) ((go_at_call 95;refine (CG.out _).mono ?_;rintro e wy ⟨rfl,hby⟩;replace HV:=hide (below_d HV.out hby rfl rfl rfl rfl);clear hby))
    go_wp2_with fail
    go_ret
    exact ⟨by rw [E.out];rfl,HB1.out.trans (HV.out.mono HB1.out.size)⟩
  ·have E:=hide (ENO.out (by rw [EV.out,q2];rfl))
   clear EB EV ENO EYES q1 HF hcell hx hy hok q0 p0 p1 p2 p4 p5 p6 hj
   go_wp2_with fail
   refine (CF1.out _).mono ?_
   rintro e w1 ⟨rfl,hb1⟩
   have HB1:=hide (HB2.out.trans (hb1.mono HB2.out.size))
   have hz:=(Blk.new wr #[.int .i64 f,.int .i64 l,.int .i64 g] 68).below hb1
   have c0:w1.cell? ⟨wr.heap.size,0,none⟩=some (.int .i64 f):=hz.cell 0
   have c2:w1.cell? ⟨wr.heap.size,2,none⟩=some (.int .i64 g):=hz.cell 2
   rw [←HB1.out.cell (p:=⟨b,_,none⟩) hbl] at y0 y1 y2
   have zb1:b < w1.heap.size:=Nat.lt_of_lt_of_le hbl HB1.out.size
   have zs1:wr.heap.size < w1.heap.size:=hz.lt
   clear hb1 hz hb
   go_wp2_with fail
   go_quiet (fail)
   go_wp2_with fail
   go_ret
   exact ⟨by rw [E.out];rfl,below_drewN HB1.out _⟩
def fl3 (cs:List Ch):List Int:=cs.flatMap fun x=>[x.f,x.l,x.g]
theorem fl3_len (cs:List Ch):(fl3 cs).length=cs.length * 3:=by
 induction cs with
 | nil=>rfl
 | cons x r ih=>unfold fl3 at *;rw [List.flatMap_cons,List.length_append,ih];simp;omega
theorem fl3_snoc (cs:List Ch) (x:Ch):fl3 (cs++[x])=fl3 cs++[x.f,x.l,x.g]:=by unfold fl3;rw [List.flatMap_append];simp
theorem fl3_set (cs:List Ch) (x:Ch) (c:Int):(fl3 (cs++[x])).set (cs.length * 3+1) c=fl3 (cs++[⟨x.f,c,x.g⟩]):=by
 rw [fl3_snoc,fl3_snoc,List.set_append_right _ _ (by rw [fl3_len];omega),fl3_len,show cs.length * 3+1 - cs.length * 3=1 by omega]
 rfl
theorem fl3_at (cs:List Ch):∀i,i < cs.length→(fl3 cs).getD (i * 3) 0=(cs.getD i c0).f∧(fl3 cs).getD (i * 3+1) 0=(cs.getD i c0).l∧(fl3 cs).getD (i * 3+2) 0=(cs.getD i c0).g:=by
 induction cs with
 | nil=>intro i h;simp at h
 | cons x r ih=>
  intro i h
  have e:fl3 (x :: r)=x.f :: x.l :: x.g :: fl3 r:=by unfold fl3;rw [List.flatMap_cons];rfl
  rw [e]
  cases i with
  | zero=>exact ⟨rfl,rfl,rfl⟩
  | succ i=>
   obtain ⟨h1,h2,h3⟩:=ih i (by simpa using h)
   rw [show (i+1) * 3=i * 3+1+1+1 by omega,show i * 3+1+1+1+1=i * 3+1+1+1+1 from rfl,show i * 3+1+1+1+2=i * 3+2+1+1+1 by omega]
   simp only [List.getD_cons_succ]
   exact ⟨h1,h2,h3⟩
def CRow (w:World) (B:Nat) (v:Value) (cs:List Ch):Prop:=w.ownsRow B 68 3 v cs.length ((fl3 cs).map (Value.int .i64))
theorem CRow.nil (w:World) (B:Nat):CRow w B (.slice none 0 0) []:=World.ownsRow_nil _ _ _ _
theorem info_ch:(Tryz.prog.info? 68).map (fun i=>(i.zero,i.size,i.bytes))=some (some (.agg #[.int .i64 0,.int .i64 0,.int .i64 0]),3,24):=by kernel_rfl
theorem CRow.shape {w:World} {B:Nat} {v:Value} {cs:List Ch} (h:CRow w B v cs) (h0:0 < cs.length):∃g cap,v=.slice (some ⟨g,0,none⟩) cs.length cap∧B≤g∧g < w.heap.size:=by
 have h':=h
 obtain ⟨_,⟨_,h1⟩ | ⟨g,cap,cur,hv,hg,hh,hc,hm,_⟩⟩:=h'
 ·omega
 ·rw [hv] at h
  exact ⟨g,cap,hv,hg,(World.ownsRow.lt h g rfl).2⟩
theorem CRow.emp {w:World} {B:Nat} {v:Value} (h:CRow w B v []):∃a cap,v=.slice a 0 cap:=by
 obtain ⟨_,⟨h0,h1⟩ | ⟨g,cap,cur,hv,_⟩⟩:=h
 ·exact ⟨none,0,h0⟩
 ·exact ⟨_,cap,hv⟩
theorem CRow.cell {w:World} {B g n cap:Nat} {cs:List Ch} (h:CRow w B (.slice (some ⟨g,0,none⟩) n cap) cs) (hn:cs.length=n) (i:Nat) (hi:i < n) :
  (w.cell? ⟨g,i * 3,none⟩=some (.int .i64 (cs.getD i c0).f)∧w.cell? ⟨g,i * 3+1,none⟩=some (.int .i64 (cs.getD i c0).l)∧w.cell? ⟨g,i * 3+2,none⟩=some (.int .i64 (cs.getD i c0).g))∧w.frozen? ⟨g,i * 3+1,none⟩=false:=by
 subst hn
 obtain ⟨e0,e1,e2⟩:=fl3_at cs i hi
 have hc:∀j,j < cs.length * 3→w.cell? ⟨g,j,none⟩=some (.int .i64 ((fl3 cs).getD j 0)):=fun j hj=>by
  have hl:j < (fl3 cs).length:=by rw [fl3_len];exact hj
  rw [World.ownsRow.cellAt h j hj,List.getElem?_map,List.getElem?_eq_getElem hl,List.getD_eq_getElem?_getD,List.getElem?_eq_getElem hl]
  rfl
 exact ⟨⟨by rw [hc _ (by omega),e0],by rw [hc _ (by omega),e1],by rw [hc _ (by omega),e2]⟩,World.ownsRow.frozenAt h _⟩
theorem CRow.lst {w:World} {B:Nat} {v:Value} {cs:List Ch} (h:CRow w B v cs):∃a cap,v=.slice a cs.length cap∧CLst w a cs:=by
 by_cases h0:0 < cs.length
 ·obtain ⟨g,cap,rfl,hg,hl⟩:=h.shape h0
  refine ⟨_,cap,rfl,Or.inr ⟨g,0,rfl,hl,fun i hi=>?_⟩⟩
  rw [Nat.zero_add]
  exact (h.cell rfl i hi).1
 ·have e:cs=[]:=List.eq_nil_of_length_eq_zero (by omega)
  subst e
  obtain ⟨a,cap,rfl⟩:=h.emp
  exact ⟨a,cap,rfl,Or.inl rfl⟩
theorem CRow.stored {w:World} {B g n cap:Nat} {cs:List Ch} (x:Ch) (c:Int) (h:CRow w B (.slice (some ⟨g,0,none⟩) n cap) (cs++[x])) (hn:(cs++[x]).length=n):CRow (w.setCell ⟨g,cs.length * 3+1,none⟩ (.int .i64 c)) B (.slice (some ⟨g,0,none⟩) n cap) (cs++[⟨x.f,c,x.g⟩]):=by
 subst hn
 have:=(World.ownsRow.stored h (cs.length * 3+1) (.int .i64 c)).1
 unfold CRow
 rw [←fl3_set cs x c,List.map_set]
 have e:(cs++[(⟨x.f,c,x.g⟩:Ch)]).length=(cs++[x]).length:=by simp
 rw [e]
 exact this
theorem CRow.kept {w w':World} {B:Nat} {v:Value} {cs:List Ch} (h:CRow w B v cs) (hk:∀k,B≤k→k < w.heap.size→w'.heap[k]?=w.heap[k]?):CRow w' B v cs:=ownsRow_kept h hk
theorem app_c {W:World} {B:Nat} {v:Value} {cs:List Ch} (f l g:Int) (h:CRow W B v cs) (hB:B≤W.heap.size) (hl:cs.length≤1000000) :
  ∃v' w2,(Builtin.append_ #[28,28] 28 #[v,.slice (some ⟨W.heap.size,0,none⟩) 1 1]).run Tryz.prog (W.alloc (.cells #[.int .i64 f,.int .i64 l,.int .i64 g] 68))=.ok v' w2∧
   CRow w2 B v' (cs++[⟨f,l,g⟩])∧Below B W w2∧W.heap.size≤w2.heap.size∧(∀k,k < W.heap.size→v.ownBlock≠some k→w2.heap[k]?=W.heap[k]?):=by
 obtain ⟨i0,hi,hz0,hz1,hz2⟩:=info_parts5 info_ch
 obtain ⟨gg,cap,w2,hr,ho,hg,hat,_⟩:=run_append_lies (P:=Tryz.prog) (W.alloc (.cells #[.int .i64 f,.int .i64 l,.int .i64 g] 68)) 28 28 B 68 i0 _ 3 24 Tryz.underlying28 hi hz0 hz1 hz2 rfl (by decide) v cs.length ((fl3 cs).map (Value.int .i64)) (World.ownsRow.alloc h _) ⟨W.heap.size,0,none⟩ 1 1 [.int .i64 f,.int .i64 l,.int .i64 g] (by simp)
  (fun j u hu=>by rw [Go.WideShapes.add_plain,Nat.zero_add,World.cell?_alloc_at _ _ _ _ rfl];simpa using hu) (fun u hu=>by simp at hu;rcases hu with rfl | rfl | rfl <;> rfl) (by decide) (by unfold maxLen;omega) (by omega) (by simp;omega) (W.heap.size+1) (by simp)
 refine ⟨_,w2,hr,?_,((Below.refl B W).alloc hB _).grown hg (by simp;omega) fun k hk'=>(World.ownsRow.lt h k hk').1,?_,?_⟩
 ·unfold CRow
  rw [fl3_snoc,List.map_append,List.length_append]
  exact ho
 ·have:=hg.size;simp at this;omega
 ·intro k hk hne
  rw [hg.block k (by simp;omega) (Ne.symm hne)]
  exact ((Below.refl W.heap.size W).alloc (Nat.le_refl _) (.cells #[.int .i64 f,.int .i64 l,.int .i64 g] 68)).block k hk
structure TF (L:Nat) (w w':World):Prop where
 below:Below L w w'
 size:w.heap.size≤w'.heap.size
 block:∀k,k < w.heap.size→k≠L→(∀c f,w.heap[k]?≠some (.cells c 68 f))→w'.heap[k]?=w.heap[k]?
theorem TF.refl (L:Nat) (w:World):TF L w w:=⟨Below.refl _ _,Nat.le_refl _,fun _ _ _ _=>rfl⟩
theorem TF.trans {L:Nat} {a b c:World} (h:TF L a b) (k:TF L b c):TF L a c:=
 ⟨h.below.trans k.below,Nat.le_trans h.size k.size,fun i hi hn ht=>by
  have e:=h.block i hi hn ht
  rw [k.block i (Nat.lt_of_lt_of_le hi h.size) hn (by rw [e];exact ht),e]⟩
theorem TF.of_below {L:Nat} {w w':World} (h:Below w.heap.size w w') (hL:L≤w.heap.size):TF L w w':=⟨h.mono hL,h.size,fun k hk _ _=>h.block k hk⟩
theorem TF.blk {L b:Nat} {w w':World} {cs:Array Value} {t:TypeId} (h:TF L w w') (hb:Blk w b cs t) (hn:b≠L) (ht:t≠68):Blk w' b cs t:=by
 have hl:=hb.lt
 unfold Blk at *
 rw [h.block b hl hn (fun c f e=>by rw [hb] at e;injection e with e;injection e with _ e _;exact ht e)]
 exact hb
theorem TF.drewN {L:Nat} {w w':World} (h:TF L w w') (n:Nat):TF L w (w'.drewN n):=⟨below_drewN h.below n,h.size,h.block⟩
def TkS (w:World) (L:Nat) (cs:List Ch):Prop:=∃v,Blk w L #[v] 28∧CRow w (L+1) v cs
theorem TkS.below {w w':World} {L:Nat} {cs:List Ch} (h:TkS w L cs) (hb:Below w.heap.size w w'):TkS w' L cs:=by
 obtain ⟨v,h1,h2⟩:=h
 exact ⟨v,h1.below hb,h2.kept fun k _ hk=>hb.block k hk⟩
theorem TkS.drewN {w:World} {L:Nat} {cs:List Ch} (h:TkS w L cs) (n:Nat):TkS (w.drewN n) L cs:=h
theorem TkS.lt {w:World} {L:Nat} {cs:List Ch} (h:TkS w L cs):L < w.heap.size:=by obtain ⟨v,h1,_⟩:=h;exact h1.lt
def TkR (w:World) (L:Nat) (R:Option (List Ch)) (e:Ending) (w':World):Prop:=match R with
 | some cs=>e=.returned (.bool true)∧TkS w' L cs∧TF L w w'
 | none=>e=.returned (.bool false)∧TF L w w'
theorem put_list {w:World} {L:Nat} {v v':Value} {cs:List Ch} (h:Blk w L #[v] 28) (hr:CRow w (L+1) v' cs):TkS (w.setCell ⟨L,0,none⟩ v') L cs:=
 ⟨v',Blk.set h 0 v',hr.kept fun k hk _=>Below.heap_setCell _ _ _ _ (show k≠L by omega)⟩
theorem tf_put (w:World) (L:Nat) (v:Value):TF L w (w.setCell ⟨L,0,none⟩ v):=
 ⟨(Below.refl L w).setCell (p:=⟨L,0,none⟩) (Nat.le_refl _) _,by simp [World.setCell],fun k _ hn _=>Below.heap_setCell _ _ _ _ hn⟩
theorem tf_store {w:World} {L g n cap j:Nat} {cs:List Ch} (u:Value) (h:CRow w (L+1) (.slice (some ⟨g,0,none⟩) n cap) cs) (hg:L+1≤g):TF L w (w.setCell ⟨g,j,none⟩ u):=
 ⟨(Below.refl L w).setCell (p:=⟨g,j,none⟩) (show L≤g by omega) _,by simp [World.setCell],fun k _ _ ht=>by
  by_cases e:k=g
  ·subst e
   obtain ⟨_,⟨h0,_⟩ | ⟨g',cap',cur,hv,hg',hh,_⟩⟩:=h
   ·simp at h0
   ·simp only [Value.slice.injEq,Option.some.injEq,Addr.mk.injEq,and_true] at hv
    obtain ⟨rfl,_⟩:=hv
    exact absurd hh (ht _ _)
  ·exact Below.heap_setCell _ _ _ _ e⟩
theorem tf_app {w w2:World} {L:Nat} {v:Value} {cs:List Ch} (h:CRow w (L+1) v cs) (hb:Below (L+1) w w2) (hs:w.heap.size≤w2.heap.size) (hk:∀k,k < w.heap.size→v.ownBlock≠some k→w2.heap[k]?=w.heap[k]?):TF L w w2:=
 ⟨hb.mono (by omega),hs,fun k hl _ ht=>hk k hl (fun e=>by
  obtain ⟨_,⟨h0,_⟩ | ⟨g',cap',cur,hv,hg',hh,_⟩⟩:=h
  ·rw [h0] at e;simp [Value.ownBlock] at e
  ·rw [hv] at e
   have : k=g':=by simpa [Value.ownBlock] using e.symm
   subst this
   exact absurd hh (ht _ _))⟩
set_option maxHeartbeats 1000000 in
theorem take_any (L:Nat) (c g:Int) (cs:List Ch) (w:World) (h:TkS w L cs) (bd:BD cs) (g0:0≤g) (g1:g≤4294967296) (hc0:0≤c) (hc1:c≤1114111) :
  Calls Tryz.prog 120 #[.int .i64 c,.int .i64 g,.pointer (some ⟨L,0,none⟩)] w (TkR w L (addC cs c g)):=by
 obtain ⟨v,hb,hr⟩:=h
 have hLT:=hb.lt
 by_cases hz:g=0
 ·subst hz
  rw [addC_zero]
  obtain ⟨a,cap,rfl,_⟩:=hr.lst
  have z0:w.cell? ⟨L,0,none⟩=some (.slice a cs.length cap):=hb.cell 0
  have HS:=hide (show TkS w L cs from ⟨_,hb,hr⟩)
  have l1:(cs.length:Int)≤4096:=by have:=bd.1;omega
  generalize cs.length=n at z0 l1
  clear hb hr bd
  go_enter Tryz.func120,Tryz.ntmps120
  go_wp2_with fail
  go_ret
  exact ⟨rfl,HS.out,TF.refl _ _⟩
 have hz':(g == 0)=false:=by simpa using hz
 rcases List.eq_nil_or_concat cs with rfl | ⟨ini,x,rfl⟩
 ·rw [addC_nil c g hz]
  obtain ⟨a,cap,rfl⟩:=hr.emp
  have z0:w.cell? ⟨L,0,none⟩=some (.slice a 0 cap):=hb.cell 0
  have zf:w.frozen? ⟨L,0,none⟩=false:=hb.frozen 0
  obtain ⟨v2,w2,hrun,hr2,hb2,hs2,hk2⟩:=app_c (W:=w) (B:=L+1) c c g hr (by omega) (by simp)
  rw [List.nil_append] at hr2
  have hbl2:Blk w2 L #[.slice a 0 cap] 28:=hb.kept hb2 (by omega)
  obtain ⟨g2,cap2,rfl,hg2,_⟩:=hr2.shape (by simp)
  have y0:w2.cell? ⟨L,0,none⟩=some (.slice a 0 cap):=hbl2.cell 0
  have yf:w2.frozen? ⟨L,0,none⟩=false:=hbl2.frozen 0
  have HS:=hide (put_list hbl2 hr2)
  have HT:=hide ((tf_app hr hb2 hs2 hk2).trans (tf_put w2 L (.slice (some ⟨g2,0,none⟩) 1 cap2)))
  have HRUN:=hide hrun
  have q0:(w2.setCell ⟨L,0,none⟩ (.slice (some ⟨g2,0,none⟩) 1 cap2)).cell? ⟨L,0,none⟩=some (.slice (some ⟨g2,0,none⟩) 1 cap2):=(Blk.set hbl2 0 _).cell 0
  clear hrun hr2 hb2 hs2 hk2 hbl2 hb hr bd hz
  go_enter Tryz.func120,Tryz.ntmps120
  go_wp2_with (at_builtin;refine Lib.wpList_append_run _ rfl _ _ _ _ rfl _ _ rfl rfl _ _ HRUN.out ?_)
  go_ret
  exact ⟨rfl,HS.out,HT.out⟩
 rw [List.concat_eq_append] at *
 obtain ⟨l1,x1,x2,x3,x4,x5⟩:=bd.last
 obtain ⟨gr,cap,rfl,hgr,hgl⟩:=hr.shape (by simp)
 have hlen:(ini++[x]).length=ini.length+1:=by simp
 obtain ⟨⟨d0,d1,d2⟩,df⟩:=hr.cell rfl ini.length (by simp)
 have hx:(ini++[x]).getD ini.length c0=x:=by simp [List.getD_eq_getElem?_getD]
 rw [hx] at d0 d1 d2
 have z0:w.cell? ⟨L,0,none⟩=some (.slice (some ⟨gr,0,none⟩) (ini.length+1) cap):=by rw [←hlen];exact hb.cell 0
 have zf:w.frozen? ⟨L,0,none⟩=false:=hb.frozen 0
 have C:=hide (fun w=>goes_any x.f x.l x.g c g w x1 x2 x3 x4 (by omega))
 have hlenI:((ini.length+1:Nat):Int)=(ini.length:Int)+1:=by omega
 have n1:(ini.length:Int)≤4095:=by omega
 have n0:(0:Int)≤(ini.length:Int):=by omega
 cases hgo:goB x c g
 ·have hgo':goB ⟨x.f,x.l,x.g⟩ c g=false:=hgo
  rw [hgo'] at C
  have HB:=hide hb
  have HR:=hide hr
  have HLN:=hide hlen
  have HAD:=hide (And.intro (addC_new ini x c g hz hgo) (addC_full ini x c g hz hgo))
  obtain ⟨xf,xl,xg⟩:=x
  simp only at d0 d1 d2 C
  obtain ⟨N,hN⟩:∃N,ini.length=N:=⟨_,rfl⟩
  rw [hN] at d0 d1 d2 df z0 n1 n0 HLN HAD
  generalize addC (ini++[⟨xf,xl,xg⟩]) c g=RR at HAD ⊢
  clear hb hr bd hz x1 x2 x3 x4 x5 hgo hgo' hlen hlenI hx l1 hN
  go_enter Tryz.func120,Tryz.ntmps120
  go_wp2_with fail
  refine (C.out _).mono ?_
  rintro e w1 ⟨rfl,hb1⟩
  have hbl1:=HB.out.below hb1
  have hr1:=HR.out.kept fun k _ hk=>hb1.block k hk
  have hbase:L+1≤w1.heap.size:=Nat.le_trans hLT hb1.size
  have z1:w1.cell? ⟨L,0,none⟩=some (.slice (some ⟨gr,0,none⟩) (N+1) cap):=by rw [←HLN.out];exact hbl1.cell 0
  obtain ⟨v2,w2,hrun,hr2,hb2,hs2,hk2⟩:=app_c (W:=w1) (B:=L+1) c c g hr1 hbase (by rw [HLN.out];omega)
  have hbl2:=hbl1.kept hb2 (by omega)
  obtain ⟨g2,cap2,rfl,hg2,_⟩:=hr2.shape (by simp)
  have hl2:(ini++[(⟨xf,xl,xg⟩:Ch)]++[(⟨c,c,g⟩:Ch)]).length=N+2:=by have:=HLN.out;rw [List.length_append,this];rfl
  rw [hl2] at hrun
  rw [HLN.out] at hrun
  have y0:w2.cell? ⟨L,0,none⟩=some (.slice (some ⟨gr,0,none⟩) (N+1) cap):=by rw [←HLN.out];exact hbl2.cell 0
  have yf:w2.frozen? ⟨L,0,none⟩=false:=hbl2.frozen 0
  have HS:=hide (put_list hbl2 hr2)
  rw [hl2] at HS
  have HT:=hide (((TF.of_below hb1 (Nat.le_of_lt hLT)).trans (tf_app hr1 hb2 hs2 hk2)).trans (tf_put w2 L (.slice (some ⟨g2,0,none⟩) (N+2) cap2)))
  have HRUN:=hide hrun
  have q0:(w2.setCell ⟨L,0,none⟩ (.slice (some ⟨g2,0,none⟩) (N+2) cap2)).cell? ⟨L,0,none⟩=some (.slice (some ⟨g2,0,none⟩) (N+2) cap2):=(Blk.set hbl2 0 _).cell 0
  clear hrun hr2 hb2 hs2 hk2 hbl2 hbl1 hr1 hl2 hb1
  by_cases hful:N+1 < 4096
  ·have t1:(N:Int)+2≤4096:=by omega
   go_wp2_with (at_builtin;refine Lib.wpList_append_run _ rfl _ _ _ _ rfl _ _ rfl rfl _ _ HRUN.out ?_)
   go_ret
   rw [HAD.out.1 hful]
   exact ⟨rfl,HS.out,HT.out⟩
  ·have t1:¬(N:Int)+2≤4096:=by omega
   have t2:decide (N+2≤4096)=false:=by simp;omega
   go_wp2_with (at_builtin;refine Lib.wpList_append_run _ rfl _ _ _ _ rfl _ _ rfl rfl _ _ HRUN.out ?_)
   go_ret
   rw [HAD.out.2 hful]
   refine ⟨?_,HT.out⟩
   simp [Array.getD]
   omega
 ·have hgo':goB ⟨x.f,x.l,x.g⟩ c g=true:=hgo
  rw [hgo'] at C
  rw [addC_go ini x c g hz hgo]
  have HB:=hide hb
  have HR:=hide hr
  have HLN:=hide hlen
  obtain ⟨xf,xl,xg⟩:=x
  simp only at d0 d1 d2 C
  obtain ⟨N,hN⟩:∃N,ini.length=N:=⟨_,rfl⟩
  have HNN:=hide hN
  rw [hN] at d0 d1 d2 df z0 n1 n0 HLN
  clear hb hr bd hz x1 x2 x3 x4 x5 hgo hgo' hlen hlenI hx l1 hN
  go_enter Tryz.func120,Tryz.ntmps120
  go_wp2_with fail
  refine (C.out _).mono ?_
  rintro e w1 ⟨rfl,hb1⟩
  have hbl1:=HB.out.below hb1
  have hr1:=HR.out.kept fun k _ hk=>hb1.block k hk
  have z1:w1.cell? ⟨L,0,none⟩=some (.slice (some ⟨gr,0,none⟩) (N+1) cap):=by rw [←HLN.out];exact hbl1.cell 0
  obtain ⟨⟨_,d4,_⟩,d5⟩:=hr1.cell rfl ini.length (by simp)
  rw [HNN.out] at d4 d5
  generalize ((ini++[(⟨xf,xl,xg⟩:Ch)]).getD N c0).l=old at d4
  have HS:=hide (show TkS (w1.setCell ⟨gr,N * 3+1,none⟩ (.int .i64 c)) L (ini++[⟨xf,c,xg⟩]) from ⟨_,hbl1.other (by omega) _ _,by have:=hr1.stored ⟨xf,xl,xg⟩ c rfl;rw [HNN.out] at this;exact this⟩)
  have HT:=hide ((TF.of_below hb1 (Nat.le_of_lt hLT)).trans (tf_store (j:=N * 3+1) (.int .i64 c) hr1 hgr))
  have hgl1:gr < w1.heap.size:=Nat.lt_of_lt_of_le hgl hb1.size
  clear hbl1 hr1 hb1
  go_wp2_with fail
  go_ret
  exact ⟨rfl,HS.out,HT.out⟩
theorem head_eq (s:ByteArray) (k:Nat) (t:List UInt8):((s.extract 0 k).toList == t)=decide (s.data.toList.take k=t):=by
 rw [Lib.toList_data,Lib.extract_data]
 simp only [Nat.sub_zero,List.drop_zero]
 cases h:decide (s.data.toList.take k=t)
 ·rw [beq_eq_false_iff_ne];simpa using h
 ·rw [beq_iff_eq];simpa using h
set_option maxRecDepth 8000 in
set_option maxHeartbeats 2000000 in
theorem groups_bad (L:Nat) (s:ByteArray) (n:Nat) (w:World) (hs:s.size≤1073741824) (h:twB s.data.toList=false) :
  Calls Tryz.prog 155 #[.string s,.int .i64 (n:Int),.func (.func 120) #[] #[.pointer (some ⟨L,0,none⟩)]] w fun e w'=>e=.returned (.bool false)∧∃m,w'=w.drewN m:=by
 have hs':(s.size:Int)≤1073741824:=by omega
 have hT:¬(16≤s.data.toList.length∧s.data.toList.take 4=[0,12,0,0]∧n4 s.data.toList 12≤4096∧n4 s.data.toList 4=16+12 * n4 s.data.toList 12∧16+12 * n4 s.data.toList 12≤s.data.toList.length):=fun hh=>by rw [twB_t.2 hh] at h;cases h
 rw [←Lib.size_eq] at hT
 clear h
 by_cases h1:s.size < 16
 ·have h1':(s.size:Int) < 16:=by omega
  clear hT
  go_enter Tryz.func155,Tryz.ntmps155
  go_wp2_with fail
  go_ret
  exact ⟨rfl,0,rfl⟩
 have h1':¬(s.size:Int) < 16:=by omega
 have h1b:(4:Int)≤(s.size:Int):=by omega
 have hq:=head_eq s 4 [0,12,0,0]
 by_cases h2:s.data.toList.take 4=[0,12,0,0]
 case neg=>
  rw [decide_eq_false h2] at hq
  clear hT h2
  go_enter Tryz.func155,Tryz.ntmps155
  go_wp2_with fail
  go_ret
  exact ⟨rfl,0,rfl⟩
 rw [decide_eq_true h2] at hq
 have CF:=hide (fun (j:Nat) (z:Int) (w:World) (hz:z=(j:Int)) (h:j+4≤s.size)=>four_any s j z w hz h hs)
 have C12:=hide (fun w=>CF.out 12 12 w rfl (by omega))
 have C4:=hide (fun w=>CF.out 4 4 w rfl (by omega))
 have HT:Hid (¬(n4 s.data.toList 12≤4096∧n4 s.data.toList 4=16+12 * n4 s.data.toList 12∧16+12 * n4 s.data.toList 12≤s.size)):=hide (fun hh=>hT ⟨by omega,h2,hh⟩)
 have b4:=n4_lt s.data.toList 4
 have b12:=n4_lt s.data.toList 12
 obtain ⟨M,hM⟩:∃M:Int,((n4 s.data.toList 12:Nat):Int)=M:=⟨_,rfl⟩
 obtain ⟨Z,hZ⟩:∃Z:Int,((n4 s.data.toList 4:Nat):Int)=Z:=⟨_,rfl⟩
 rw [hM] at C12
 rw [hZ] at C4
 have m0:0≤M:=by omega
 have m1:M≤4294967295:=by omega
 have HT':Hid (¬(M≤4096∧Z=16+12 * M∧16+12 * M≤(s.size:Int))):=hide (fun hh=>HT.out (by omega))
 clear hT HT b4 b12 hM hZ h2
 by_cases h3:4096 < M
 ·clear HT'
  go_enter Tryz.func155,Tryz.ntmps155
  go_wp2_with fail
  refine (C12.out _).mono ?_
  rintro e w1 ⟨rfl,k1,hw⟩
  subst hw
  go_wp2_with fail
  go_ret
  exact ⟨rfl,_,rfl⟩
 have h3':decide (4096 < M)=false:=by simp;omega
 have h3b:M≤4096:=by omega
 by_cases h4:Z=16+12 * M
 case neg=>
  have h4':(Z != 16+12 * M)=true:=by simpa using h4
  clear HT' h4 h3
  go_enter Tryz.func155,Tryz.ntmps155
  go_wp2_with fail
  refine (C12.out _).mono ?_
  rintro e w1 ⟨rfl,k1,hw⟩
  subst hw
  go_wp2_with fail
  refine (C4.out _).mono ?_
  rintro e w1 ⟨rfl,k2,hw⟩
  subst hw
  go_wp2_with fail
  go_ret
  exact ⟨rfl,_,rfl⟩
 have h4':(Z != 16+12 * M)=false:=by simpa using h4
 have h5:(s.size:Int) < 16+12 * M:=by have:=HT'.out;omega
 clear HT' h4 h3
 go_enter Tryz.func155,Tryz.ntmps155
 go_wp2_with fail
 refine (C12.out _).mono ?_
 rintro e w1 ⟨rfl,k1,hw⟩
 subst hw
 go_wp2_with fail
 refine (C4.out _).mono ?_
 rintro e w1 ⟨rfl,k2,hw⟩
 subst hw
 go_wp2_with fail
 go_ret
 exact ⟨rfl,_,rfl⟩
set_option maxRecDepth 8000 in
set_option maxHeartbeats 4000000 in
theorem groups_ok (L:Nat) (s:ByteArray) (n:Nat) (w:World) (hs:s.size≤1073741824) (h:twB s.data.toList=true) (hn:n≤4096) (hS:TkS w L []) :
  Calls Tryz.prog 155 #[.string s,.int .i64 (n:Int),.func (.func 120) #[] #[.pointer (some ⟨L,0,none⟩)]] w (TkR w L (twV s.data.toList n)):=by
 have hs':(s.size:Int)≤1073741824:=by omega
 have hn':(n:Int)≤4096:=by omega
 have hT:=twB_t.1 h
 rw [←Lib.size_eq] at hT
 obtain ⟨h1,h2,h3,h4,h5⟩:=hT
 have h1':¬(s.size:Int) < 16:=by omega
 have h1b:(4:Int)≤(s.size:Int):=by omega
 have hq:=head_eq s 4 [0,12,0,0]
 rw [decide_eq_true h2] at hq
 have CF:=hide (fun (j:Nat) (z:Int) (w:World) (hz:z=(j:Int)) (h:j+4≤s.size)=>four_any s j z w hz h hs)
 have C12:=hide (fun w=>CF.out 12 12 w rfl (by omega))
 have C4:=hide (fun w=>CF.out 4 4 w rfl (by omega))
 have CP:=hide isPt_any
 have HVB:=hide (fun (i:Nat)=>@twV_bad s.data.toList n i)
 have HVF:=hide (fun (i:Nat)=>@twV_full s.data.toList n i)
 have HVO:=hide (@twV_ok s.data.toList n h)
 have HLL:=hide (n4_lt s.data.toList)
 obtain ⟨M,hM⟩:∃M:Nat,n4 s.data.toList 12=M:=⟨_,rfl⟩
 rw [hM] at C12 h3 h4 h5 HVB HVF HVO
 obtain ⟨Z,hZ⟩:∃Z:Int,((n4 s.data.toList 4:Nat):Int)=Z:=⟨_,rfl⟩
 rw [hZ] at C4
 have h3':¬(4096:Int) < (M:Int):=by omega
 have h3b:(M:Int)≤4096:=by omega
 have h3c:(0:Int)≤(M:Int):=by omega
 have h4':(Z != 16+12 * (M:Int))=false:=by simp;omega
 have h5':¬(s.size:Int) < 16+12 * (M:Int):=by omega
 have H5:=hide h5
 have HS:=hide hS
 clear h h1 h2 h3 h4 h5 hM hZ hS
 go_enter Tryz.func155,Tryz.ntmps155
 go_wp2_with fail
 refine (C12.out _).mono ?_
 rintro e w1 ⟨rfl,k1,hw⟩
 subst hw
 go_wp2_with fail
 refine (C4.out _).mono ?_
 rintro e w1 ⟨rfl,k2,hw⟩
 subst hw
 go_wp2_with fail
 go_loopw [9,44] (fun vl vi wr=>∃(k:Nat) (cur:List Ch),vi=.int .i64 k∧vl=.int .i64 ((lea s.data.toList k:Nat):Int)∧Hid (k≤M∧(∀j,j < k→okG s.data.toList n j=true)∧accG s.data.toList k=some cur∧BD cur∧TkS wr L cur∧TF L w wr)) (fun _ vi _=>M - (intOf vi).toNat)
 case atStart=>exact ⟨0,[],rfl,rfl,hide ⟨by omega,fun j hj=>by omega,rfl,BD.nil,HS.out.drewN _,(TF.refl _ _).drewN _⟩⟩
 case round=>
  obtain ⟨k,cur,rfl,rfl,HV⟩:=hrel
  obtain ⟨hk,hok,hac,hbd,htk,htf⟩:=HV.out
  have hk0:(0:Int)≤(k:Int):=by omega
  have HOK:=hide hok
  have HAC:=hide hac
  have HBD:=hide hbd
  have HTK:=hide htk
  have HTF:=hide htf
  clear HV hok hac hbd htk htf HS
  by_cases hlt:k < M
  case neg=>
   have hlt':¬(k:Int) < (M:Int):=by omega
   have E:Hid (twV s.data.toList n=some cur):=hide (by
    obtain rfl:k=M:=by omega
    rw [HVO.out HOK.out,HAC.out])
   generalize ((lea s.data.toList k:Nat):Int)=le at *
   go_wp2_with fail
   go_ret
   rw [E.out]
   exact ⟨rfl,HTK.out,HTF.out⟩
  have hlt':(k:Int) < (M:Int):=by omega
  have C1:=hide (fun z w (hz:z=((16+12 * k:Nat):Int))=>CF.out (16+12 * k) z w hz (by have:=H5.out;omega))
  have C2:=hide (fun z w (hz:z=((20+12 * k:Nat):Int))=>CF.out (20+12 * k) z w hz (by have:=H5.out;omega))
  have C3:=hide (fun z w (hz:z=((24+12 * k:Nat):Int))=>CF.out (24+12 * k) z w hz (by have:=H5.out;omega))
  have ba:=HLL.out (16+12 * k)
  have bb:=HLL.out (20+12 * k)
  have bg:=HLL.out (24+12 * k)
  have EOK:=hide (show okG s.data.toList n k=decide (lea s.data.toList k≤n4 s.data.toList (16+12 * k)∧n4 s.data.toList (16+12 * k)≤n4 s.data.toList (20+12 * k)∧n4 s.data.toList (20+12 * k)≤1114111∧n4 s.data.toList (24+12 * k)+(n4 s.data.toList (20+12 * k) - n4 s.data.toList (16+12 * k)) < n) from rfl)
  have EAC:=hide (show accG s.data.toList (k+1)=grpF (n4 s.data.toList (16+12 * k)) (n4 s.data.toList (24+12 * k)) cur (n4 s.data.toList (20+12 * k) - n4 s.data.toList (16+12 * k)+1) by rw [accG,HAC.out];rfl)
  have ELE:=hide (show lea s.data.toList (k+1)=n4 s.data.toList (20+12 * k)+1 from rfl)
  generalize n4 s.data.toList (16+12 * k)=A at *
  generalize n4 s.data.toList (20+12 * k)=B at *
  generalize n4 s.data.toList (24+12 * k)=G at *
  generalize lea s.data.toList k=LE at *
  obtain ⟨a,hA⟩:∃a:Int,(A:Int)=a:=⟨_,rfl⟩
  obtain ⟨b,hB⟩:∃b:Int,(B:Int)=b:=⟨_,rfl⟩
  obtain ⟨g,hG⟩:∃g:Int,(G:Int)=g:=⟨_,rfl⟩
  obtain ⟨le,hLE⟩:∃le:Int,(LE:Int)=le:=⟨_,rfl⟩
  rw [hA] at C1
  rw [hB] at C2
  rw [hG] at C3
  rw [hLE]
  have a0:0≤a:=by omega
  have a1:a≤4294967295:=by omega
  have b0:0≤b:=by omega
  have b1:b≤4294967295:=by omega
  have g0:0≤g:=by omega
  have g1:g≤4294967295:=by omega
  have HIN:=hide (And.intro hA (And.intro hB (And.intro hG hLE)))
  have ENO:Hid (¬(le≤a∧a≤b∧b≤1114111∧g+b - a < (n:Int))→twV s.data.toList n=none):=hide (fun hh=>HVB.out k hlt (by rw [EOK.out];exact decide_eq_false (by omega)))
  have EYES:Hid ((le≤a∧a≤b∧b≤1114111∧g+b - a < (n:Int))→okG s.data.toList n k=true):=hide (fun hh=>by rw [EOK.out];exact decide_eq_true (by omega))
  clear ba bb bg hA hB hG hLE EOK
  go_wp2_with fail
  refine (C1.out _ _ (by omega)).mono ?_
  rintro e w1 ⟨rfl,m1,hw⟩
  subst hw
  go_wp2_with fail
  refine (C2.out _ _ (by omega)).mono ?_
  rintro e w1 ⟨rfl,m2,hw⟩
  subst hw
  go_wp2_with fail
  refine (C3.out _ _ (by omega)).mono ?_
  rintro e w1 ⟨rfl,m3,hw⟩
  subst hw
  have HTF2:Hid (∀m,TF L w (wr.drewN m)):=hide (fun m=>HTF.out.drewN m)
  by_cases c1:a < le
  ·have E:=hide (ENO.out (by omega))
   clear EYES ENO
   go_wp2_with fail
   go_ret
   rw [E.out]
   exact ⟨rfl,HTF2.out _⟩
  have c1':decide (a < le)=false:=by simp;omega
  by_cases c2:b < a
  ·have E:=hide (ENO.out (by omega))
   clear EYES ENO c1
   go_wp2_with fail
   go_ret
   rw [E.out]
   exact ⟨rfl,HTF2.out _⟩
  have c2':decide (b < a)=false:=by simp;omega
  by_cases c3:1114111 < b
  ·have E:=hide (ENO.out (by omega))
   clear EYES ENO c1 c2
   go_wp2_with fail
   go_ret
   rw [E.out]
   exact ⟨rfl,HTF2.out _⟩
  have c3':decide (1114111 < b)=false:=by simp;omega
  by_cases c4:(n:Int)≤g+b - a
  ·have E:=hide (ENO.out (by omega))
   clear EYES ENO c1 c2 c3
   go_wp2_with fail
   go_ret
   rw [E.out]
   exact ⟨rfl,HTF2.out _⟩
  have c4':decide ((n:Int)≤g+b - a)=false:=by simp;omega
  have E:=hide (EYES.out (by omega))
  have b2:b≤1114111:=by omega
  have ab:a≤b:=by omega
  have g2:g≤4096:=by omega
  obtain ⟨cnt,hcnt⟩:∃cnt:Nat,(cnt:Int)=b - a+1:=⟨(b - a+1).toNat,by omega⟩
  have HCN:=hide hcnt
  have EC:Hid (B - A+1=cnt):=hide (by have:=HIN.out;omega)
  have gb2:g+b - a≤4096:=by omega
  clear EYES ENO c1 c2 c3 c4
  go_wp2_with fail
  go_loopw [86] (fun vi wr=>∃(j:Nat) (cu:List Ch),vi=.int .i64 j∧Hid (j≤cnt∧grpF A G cur j=some cu∧BD cu∧TkS wr L cu∧TF L w wr)) (fun vi _=>cnt - (intOf vi).toNat)
  case atStart=>exact ⟨0,cur,rfl,hide ⟨by omega,rfl,HBD.out,HTK.out.drewN _,HTF2.out _⟩⟩
  case round=>
   obtain ⟨j,cu,rfl,HV⟩:=hrel
   obtain ⟨hj,hgr,hbd,htk,htf⟩:=HV.out
   have hj0:(0:Int)≤(j:Int):=by omega
   have HGR:=hide hgr
   have HBD2:=hide hbd
   have HTK2:=hide htk
   have HTF3:=hide htf
   clear HV hgr hbd htk htf
   by_cases hlt2:j < cnt
   case neg=>
    have hlt2':¬(j:Int) < b - a+1:=by omega
    have EJ:Hid (accG s.data.toList (k+1)=some cu):=hide (by
     rw [EAC.out,EC.out,←HGR.out]
     obtain rfl:j=cnt:=by omega
     rfl)
    have EL2:Hid (((lea s.data.toList (k+1):Nat):Int)=b+1):=hide (by rw [ELE.out];have:=HIN.out;omega)
    clear hcnt
    go_wp2_with fail
    go_roundw
    case rel=>exact ⟨k+1,cu,by go_num,by rw [EL2.out],hide ⟨by omega,fun i hi=>by
      rcases Nat.lt_or_ge i k with h' | h'
      ·exact HOK.out i h'
      ·obtain rfl:i=k:=by omega
       exact E.out,EJ.out,HBD2.out,HTK2.out,HTF3.out⟩⟩
    case measure=>simp [intOf];omega
   have hlt2':(j:Int) < b - a+1:=by omega
   obtain ⟨c,hc⟩:∃c,a+(j:Int)=c:=⟨_,rfl⟩
   obtain ⟨q,hq2⟩:∃q,g+(j:Int)=q:=⟨_,rfl⟩
   have q0:0≤c:=by omega
   have q1:c≤1114111:=by omega
   have r0:0≤q:=by omega
   have r1:q≤4096:=by omega
   have jb:(j:Int)≤1114111:=by omega
   have EST:Hid (grpF A G cur (j+1)=stP cu c q):=hide (by
    rw [grpF,HGR.out]
    show stP cu _ _=_
    rw [show (((A+j:Nat):Int))=c by have:=HIN.out;omega,show (((G+j:Nat):Int))=q by have:=HIN.out;omega])
   have CP1:=hide (CP.out c)
   cases hp:isP c
   ·rw [hp] at CP1
    have EST2:Hid (grpF A G cur (j+1)=some cu):=hide (by rw [EST.out,stP,hp];rfl)
    clear EST hp hcnt
    go_wp2_with fail
    refine (CP1.out _).mono ?_
    rintro e w1 ⟨rfl,hw⟩
    subst hw
    go_wp2_with fail
    go_roundw
    case rel=>exact ⟨j+1,cu,by go_num,hide ⟨by omega,EST2.out,HBD2.out,HTK2.out,HTF3.out⟩⟩
    case measure=>simp [intOf];omega
   ·rw [hp] at CP1
    have EST2:Hid (grpF A G cur (j+1)=addC cu c q):=hide (by rw [EST.out,stP,hp];rfl)
    have CT:=hide (take_any L c q cu wr HTK2.out HBD2.out r0 (by omega) q0 q1)
    cases hadd:addC cu c q with
    | none=>
     rw [hadd] at CT EST2
     have EN:Hid (twV s.data.toList n=none):=hide (HVF.out (k+1) (by omega) (by rw [EAC.out,EC.out];exact grpF_end EST2.out (by omega)))
     clear EST hp hadd hcnt
     go_wp2_with fail
     refine (CP1.out _).mono ?_
     rintro e w1 ⟨rfl,hw⟩
     subst hw
     go_wp2_with fail
     refine CT.out.mono ?_
     rintro e w1 ⟨rfl,ht⟩
     have HT2:=hide (HTF3.out.trans ht)
     clear ht
     go_wp2_with fail
     go_ret
     rw [EN.out]
     exact ⟨rfl,HT2.out⟩
    | some cs2=>
     rw [hadd] at CT EST2
     have HBD3:=hide (HBD2.out.add q0 q1 r0 (by omega) hadd)
     clear EST hp hadd hcnt
     go_wp2_with fail
     refine (CP1.out _).mono ?_
     rintro e w1 ⟨rfl,hw⟩
     subst hw
     go_wp2_with fail
     refine CT.out.mono ?_
     rintro e w1 ⟨rfl,hk3,ht⟩
     have HK3:=hide hk3
     have HT2:=hide (HTF3.out.trans ht)
     clear ht hk3
     go_wp2_with fail
     go_roundw
     case rel=>exact ⟨j+1,cs2,by go_num,hide ⟨by omega,EST2.out,HBD3.out,HK3.out,HT2.out⟩⟩
     case measure=>simp [intOf];omega
theorem widr_any (p e g:Nat) (w:World):Calls Tryz.prog 154 #[.agg #[.int .i64 (p:Int),.int .i64 (e:Int),.int .i64 (g:Int)]] w fun en w'=>en=.returned (.bool (wiR p e))∧Below w.heap.size w w':=by
 have HB:=hide ((Below.refl w.heap.size w).alloc (Nat.le_refl _) (.cells #[.int .i64 (p:Int),.int .i64 (e:Int),.int .i64 (g:Int)] 205))
 unfold wiR
 have q1:((p:Int) == 3)=decide (p=3):=by rw [Bool.eq_iff_iff,beq_iff_eq,decide_eq_true_iff];omega
 have q2:((e:Int) == 10)=decide (e=10):=by rw [Bool.eq_iff_iff,beq_iff_eq,decide_eq_true_iff];omega
 have q3:((p:Int) == 0)=decide (p=0):=by rw [Bool.eq_iff_iff,beq_iff_eq,decide_eq_true_iff];omega
 have q4:((e:Int) == 4)=decide (e=4):=by rw [Bool.eq_iff_iff,beq_iff_eq,decide_eq_true_iff];omega
 generalize decide (p=3)=A at *
 generalize decide (e=10)=B at *
 generalize decide (p=0)=C at *
 generalize decide (e=4)=D at *
 generalize (p:Int)=P at *
 generalize (e:Int)=E at *
 generalize (g:Int)=G at *
 cases A <;> cases B <;> cases C <;> cases D
 all_goals
  go_enter Tryz.func154,Tryz.ntmps154
  go_wp2_with fail
  go_ret
  exact ⟨rfl,HB.out⟩
theorem narr_any (p e g:Nat) (w:World):Calls Tryz.prog 157 #[.agg #[.int .i64 (p:Int),.int .i64 (e:Int),.int .i64 (g:Int)]] w fun en w'=>en=.returned (.bool (naR p e))∧Below w.heap.size w w':=by
 have HB:=hide ((Below.refl w.heap.size w).alloc (Nat.le_refl _) (.cells #[.int .i64 (p:Int),.int .i64 (e:Int),.int .i64 (g:Int)] 205))
 unfold naR
 have q1:((p:Int) == 3)=decide (p=3):=by rw [Bool.eq_iff_iff,beq_iff_eq,decide_eq_true_iff];omega
 have q2:((e:Int) == 1)=decide (e=1):=by rw [Bool.eq_iff_iff,beq_iff_eq,decide_eq_true_iff];omega
 have q3:((p:Int) == 0)=decide (p=0):=by rw [Bool.eq_iff_iff,beq_iff_eq,decide_eq_true_iff];omega
 have q4:decide ((e:Int)≤3)=decide (e≤3):=by rw [Bool.eq_iff_iff,decide_eq_true_iff,decide_eq_true_iff];omega
 generalize decide (p=3)=A at *
 generalize decide (e=1)=B at *
 generalize decide (p=0)=C at *
 generalize decide (e≤3)=D at *
 generalize (p:Int)=P at *
 generalize (e:Int)=E at *
 generalize (g:Int)=G at *
 cases A <;> cases B <;> cases C <;> cases D
 all_goals
  go_enter Tryz.func157,Tryz.ntmps157
  go_wp2_with fail
  go_ret
  exact ⟨rfl,HB.out⟩
def RwL (w:World) (a:Option Addr) (l:List UInt8) (k:Nat):Prop:=
 k=0∨∃b,a=some ⟨b,0,none⟩∧b < w.heap.size∧∀i,i < k→w.cell? ⟨b,i * 3,none⟩=some (.int .i64 (rp l i:Int))∧w.cell? ⟨b,i * 3+1,none⟩=some (.int .i64 (re l i:Int))∧w.cell? ⟨b,i * 3+2,none⟩=some (.int .i64 (rpl l i:Int))
theorem RwL.below {w w':World} {a:Option Addr} {l:List UInt8} {k:Nat} (h:RwL w a l k) (hb:Below w.heap.size w w'):RwL w' a l k:=by
 rcases h with h | ⟨b,h1,h2,h3⟩
 ·exact Or.inl h
 ·refine Or.inr ⟨b,h1,Nat.lt_of_lt_of_le h2 hb.size,fun i hi=>?_⟩
  obtain ⟨x,y,z⟩:=h3 i hi
  exact ⟨by rw [hb.cell (p:=⟨b,_,none⟩) h2];exact x,by rw [hb.cell (p:=⟨b,_,none⟩) h2];exact y,by rw [hb.cell (p:=⟨b,_,none⟩) h2];exact z⟩
def ixV:Option Nat→Int
 | some i=>(i:Int)
 | none=>-1
theorem index_w (a:Option Addr) (l:List UInt8) (k c:Nat) (w:World) (hk:k≤65535) (hL:RwL w a l k) :
  Calls Tryz.prog 153 #[.slice a k c,.func (.func 154) #[] #[]] w fun en w'=>en=.returned (.int .i64 (ixV (fstI (fun i=>wiR (rp l i) (re l i)) k)))∧Below w.heap.size w w':=by
 have hk':(k:Int)≤65535:=by omega
 have HL:=hide hL
 have HP:=hide widr_any
 clear hL hk
 go_enter Tryz.func153,Tryz.ntmps153
 go_wp2_with fail
 go_loopw [8] (fun vi wr=>∃(j:Nat),vi=.int .i64 j∧Hid (j≤k∧(∀i,i < j→wiR (rp l i) (re l i)=false)∧Below w.heap.size w wr)) (fun vi _=>k - (intOf vi).toNat)
 case atStart=>exact ⟨0,rfl,hide ⟨by omega,fun i hi=>by omega,Below.refl _ _⟩⟩
 case round=>
  obtain ⟨j,rfl,HV⟩:=hrel
  obtain ⟨hj,hno,hb⟩:=HV.out
  have hj0:(0:Int)≤(j:Int):=by omega
  have HNO:=hide hno
  have HB:=hide hb
  clear HV hno
  by_cases hlt:j < k
  case neg=>
   have hlt':¬(j:Int) < (k:Int):=by omega
   have E:=hide (fstI_none (p:=fun i=>wiR (rp l i) (re l i)) (k:=k) fun i hi=>HNO.out i (by omega))
   go_wp2_with fail
   go_ret
   exact ⟨by rw [E.out];rfl,HB.out⟩
  have hlt':(j:Int) < (k:Int):=by omega
  rcases HL.out.below hb with hz | ⟨b,rfl,hbl,hcell⟩
  ·omega
  obtain ⟨z0,z1,z2⟩:=hcell j hlt
  have C:=hide (HP.out (rp l j) (re l j) (rpl l j))
  have E1:=hide (fun h=>fstI_some (p:=fun i=>wiR (rp l i) (re l i)) (k:=k) hlt h HNO.out)
  have E2:Hid (wiR (rp l j) (re l j)=false→∀i,i < j+1→wiR (rp l i) (re l i)=false):=hide (fun h i hi=>by
   rcases Nat.lt_or_ge i j with h' | h'
   ·exact HNO.out i h'
   ·obtain rfl:i=j:=by omega
    exact h)
  generalize wiR (rp l j) (re l j)=R at C E1 E2
  generalize ((rp l j:Nat):Int)=X at *
  generalize ((re l j:Nat):Int)=Y at *
  generalize ((rpl l j:Nat):Int)=Z at *
  cases R
  ·clear E1
   have E:=hide (E2.out rfl)
   clear E2 hcell hb
   go_wp2_with fail
   refine (C.out _).mono ?_
   rintro e w1 ⟨rfl,h1⟩
   have HB1:=hide (HB.out.trans (h1.mono HB.out.size))
   clear h1
   go_wp2_with fail
   go_roundw
   case rel=>exact ⟨j+1,by go_num,hide ⟨by omega,E.out,HB1.out⟩⟩
   case measure=>simp [intOf];omega
  ·clear E2
   have E:=hide (E1.out rfl)
   clear E1 hcell hb
   go_wp2_with fail
   refine (C.out _).mono ?_
   rintro e w1 ⟨rfl,h1⟩
   have HB1:=hide (HB.out.trans (h1.mono HB.out.size))
   clear h1
   go_wp2_with fail
   go_ret
   exact ⟨by rw [E.out];rfl,HB1.out⟩
theorem index_n (a:Option Addr) (l:List UInt8) (k c:Nat) (w:World) (hk:k≤65535) (hL:RwL w a l k) :
  Calls Tryz.prog 153 #[.slice a k c,.func (.func 157) #[] #[]] w fun en w'=>en=.returned (.int .i64 (ixV (fstI (fun i=>naR (rp l i) (re l i)) k)))∧Below w.heap.size w w':=by
 have hk':(k:Int)≤65535:=by omega
 have HL:=hide hL
 have HP:=hide narr_any
 clear hL hk
 go_enter Tryz.func153,Tryz.ntmps153
 go_wp2_with fail
 go_loopw [8] (fun vi wr=>∃(j:Nat),vi=.int .i64 j∧Hid (j≤k∧(∀i,i < j→naR (rp l i) (re l i)=false)∧Below w.heap.size w wr)) (fun vi _=>k - (intOf vi).toNat)
 case atStart=>exact ⟨0,rfl,hide ⟨by omega,fun i hi=>by omega,Below.refl _ _⟩⟩
 case round=>
  obtain ⟨j,rfl,HV⟩:=hrel
  obtain ⟨hj,hno,hb⟩:=HV.out
  have hj0:(0:Int)≤(j:Int):=by omega
  have HNO:=hide hno
  have HB:=hide hb
  clear HV hno
  by_cases hlt:j < k
  case neg=>
   have hlt':¬(j:Int) < (k:Int):=by omega
   have E:=hide (fstI_none (p:=fun i=>naR (rp l i) (re l i)) (k:=k) fun i hi=>HNO.out i (by omega))
   go_wp2_with fail
   go_ret
   exact ⟨by rw [E.out];rfl,HB.out⟩
  have hlt':(j:Int) < (k:Int):=by omega
  rcases HL.out.below hb with hz | ⟨b,rfl,hbl,hcell⟩
  ·omega
  obtain ⟨z0,z1,z2⟩:=hcell j hlt
  have C:=hide (HP.out (rp l j) (re l j) (rpl l j))
  have E1:=hide (fun h=>fstI_some (p:=fun i=>naR (rp l i) (re l i)) (k:=k) hlt h HNO.out)
  have E2:Hid (naR (rp l j) (re l j)=false→∀i,i < j+1→naR (rp l i) (re l i)=false):=hide (fun h i hi=>by
   rcases Nat.lt_or_ge i j with h' | h'
   ·exact HNO.out i h'
   ·obtain rfl:i=j:=by omega
    exact h)
  generalize naR (rp l j) (re l j)=R at C E1 E2
  generalize ((rp l j:Nat):Int)=X at *
  generalize ((re l j:Nat):Int)=Y at *
  generalize ((rpl l j:Nat):Int)=Z at *
  cases R
  ·clear E1
   have E:=hide (E2.out rfl)
   clear E2 hcell hb
   go_wp2_with fail
   refine (C.out _).mono ?_
   rintro e w1 ⟨rfl,h1⟩
   have HB1:=hide (HB.out.trans (h1.mono HB.out.size))
   clear h1
   go_wp2_with fail
   go_roundw
   case rel=>exact ⟨j+1,by go_num,hide ⟨by omega,E.out,HB1.out⟩⟩
   case measure=>simp [intOf];omega
  ·clear E2
   have E:=hide (E1.out rfl)
   clear E1 hcell hb
   go_wp2_with fail
   refine (C.out _).mono ?_
   rintro e w1 ⟨rfl,h1⟩
   have HB1:=hide (HB.out.trans (h1.mono HB.out.size))
   clear h1
   go_wp2_with fail
   go_ret
   exact ⟨by rw [E.out];rfl,HB1.out⟩
theorem from_any (s:ByteArray) (k:Nat) (w:World) (hs:s.size≤1073741824) (hk:k≤4294967295) :
  Calls Tryz.prog 156 #[.string s,.int .i64 (k:Int)] w fun e w'=>e=.returned (.string (s.extract (min k s.size) s.size))∧w'=w:=by
 have hs':(s.size:Int)≤1073741824:=by omega
 have hs0:(0:Int)≤(s.size:Int):=by omega
 have hk0:(0:Int)≤(k:Int):=by omega
 by_cases h:k≤s.size
 ·rw [Nat.min_eq_left h]
  have h1:(k:Int)≤(s.size:Int):=by omega
  have h2:min (k:Int) (s.size:Int)=(k:Int):=by omega
  go_enter Tryz.func156,Tryz.ntmps156
  go_wp2_with fail
  go_ret
  exact ⟨by simp,rfl⟩
 ·rw [Nat.min_eq_right (by omega)]
  have h1:(s.size:Int)≤(k:Int):=by omega
  have h2:min (k:Int) (s.size:Int)=(s.size:Int):=by omega
  go_enter Tryz.func156,Tryz.ntmps156
  go_wp2_with fail
  go_ret
  exact ⟨by simp,rfl⟩
def arr (f:Nat→Int) (n k:Nat):Array Value:=((List.range n).map fun i=>Value.int .i64 (if i < k then f i else 0)).toArray
theorem arr_size (f:Nat→Int) (n k:Nat):(arr f n k).size=n:=by simp [arr]
theorem arr_at (f:Nat→Int) (n k j:Nat) (h:j < n):(arr f n k)[j]?=some (.int .i64 (if j < k then f j else 0)):=by
 simp [arr,h]
theorem arr_set (f:Nat→Int) (n k:Nat) (h:k < n):(arr f n k).setIfInBounds k (.int .i64 (f k))=arr f n (k+1):=by
 apply Array.ext_getElem?
 intro j
 rw [Array.getElem?_setIfInBounds]
 by_cases hj:j < n
 ·rw [arr_at _ _ _ _ hj,arr_at _ _ _ _ hj]
  by_cases e:k=j
  ·subst e;simp [arr_size,hj]
  ·rw [if_neg e]
   by_cases h1:j < k
   ·rw [if_pos h1,if_pos (by omega)]
   ·rw [if_neg h1,if_neg (by omega)]
 ·rw [if_neg (by rintro rfl;exact hj h)]
  rw [Array.getElem?_eq_none (by rw [arr_size];omega),Array.getElem?_eq_none (by rw [arr_size];omega)]
theorem arr_zero (f:Nat→Int) (n:Nat):arr f n 0=Array.replicate n (.int .i64 0):=by
 apply Array.ext_getElem?
 intro j
 by_cases hj:j < n
 ·rw [arr_at _ _ _ _ hj];simp [hj]
 ·rw [Array.getElem?_eq_none (by rw [arr_size];omega),Array.getElem?_eq_none (by simp;omega)]
theorem info_row:(Tryz.prog.info? 205).map (fun i=>(i.zero,i.size,i.bytes))=some (some (.agg #[.int .i64 0,.int .i64 0,.int .i64 0]),3,24):=by kernel_rfl
theorem make_rows (n:Nat) (hn:n≤100000) (x:World):(Instr.makeSlice 201 (.int .i64 (n:Int)) (.int .i64 (n:Int))).run Tryz.prog x=.ok (.slice (some ⟨x.heap.size,0,none⟩) n n) (x.alloc (.cells (Array.replicate (n * 3) (.int .i64 0)) 205)):=by
 obtain ⟨i0,hi,hz0,hz1,hz2⟩:=info_parts5 info_row
 have h:=run_make (P:=Tryz.prog) x 201 205 i0 (.agg #[.int .i64 0,.int .i64 0,.int .i64 0]) Tryz.underlying201 hi hz0 .i64 .i64 n n (by omega) (Int.le_refl _) (by rw [hz2];omega) (by omega)
 rw [hz1] at h
 simp only [Int.toNat_natCast] at h
 have e:madeCells (Value.agg #[.int .i64 0,.int .i64 0,.int .i64 0]).cells (n * 3)=Array.replicate (n * 3) (.int .i64 0):=by
  apply Array.ext (by simp [madeCells])
  intro j h1 h2
  have hm:j % 3 < 3:=Nat.mod_lt _ (by omega)
  simp [madeCells,Value.cells]
  generalize j % 3=q at hm
  match q,hm with
  | 0,_=>rfl
  | 1,_=>rfl
  | 2,_=>rfl
 rw [e] at h
 exact h
def rwF (l:List UInt8) (j:Nat):Int:=if j % 3=0 then (rp l (j / 3):Int) else if j % 3=1 then (re l (j / 3):Int) else (rpl l (j / 3):Int)
theorem rwF0 (l:List UInt8) (i:Nat):rwF l (i * 3)=(rp l i:Int):=by unfold rwF;rw [if_pos (by omega),show i * 3 / 3=i by omega]
theorem rwF1 (l:List UInt8) (i:Nat):rwF l (i * 3+1)=(re l i:Int):=by unfold rwF;rw [if_neg (by omega),if_pos (by omega),show (i * 3+1) / 3=i by omega]
theorem rwF2 (l:List UInt8) (i:Nat):rwF l (i * 3+2)=(rpl l i:Int):=by unfold rwF;rw [if_neg (by omega),if_neg (by omega),show (i * 3+2) / 3=i by omega]
theorem rw_step {w:World} {b k i:Nat} {l:List UInt8} (h:Blk w b (arr (rwF l) (k * 3) (i * 3)) 205) (hi:i < k) :
  Blk (((w.setCell ⟨b,i * 3,none⟩ (.int .i64 (rp l i:Int))).setCell ⟨b,i * 3+1,none⟩ (.int .i64 (re l i:Int))).setCell ⟨b,i * 3+2,none⟩ (.int .i64 (rpl l i:Int))) b (arr (rwF l) (k * 3) ((i+1) * 3)) 205:=by
 have h1:=Blk.set h (i * 3) (.int .i64 (rp l i:Int))
 rw [←rwF0,arr_set _ _ _ (by omega)] at h1
 have h2:=Blk.set h1 (i * 3+1) (.int .i64 (re l i:Int))
 rw [←rwF1,arr_set _ _ _ (by omega)] at h2
 have h3:=Blk.set h2 (i * 3+2) (.int .i64 (rpl l i:Int))
 rw [←rwF2,show i * 3+2=i * 3+1+1 from rfl,arr_set _ _ _ (by omega),show i * 3+1+1+1=(i+1) * 3 by omega] at h3
 rw [←rwF0,←rwF1,←rwF2]
 exact h3
theorem rw_cells {w:World} {b k i:Nat} {l:List UInt8} (h:Blk w b (arr (rwF l) (k * 3) (i * 3)) 205) (hi:i < k) :
  w.cell? ⟨b,i * 3,none⟩=some (.int .i64 0)∧w.cell? ⟨b,i * 3+1,none⟩=some (.int .i64 0)∧w.cell? ⟨b,i * 3+2,none⟩=some (.int .i64 0):=by
 refine ⟨?_,?_,?_⟩
 ·rw [h.cell,arr_at _ _ _ _ (by omega),if_neg (by omega)]
 ·rw [h.cell,arr_at _ _ _ _ (by omega),if_neg (by omega)]
 ·rw [h.cell,arr_at _ _ _ _ (by omega),if_neg (by omega)]
theorem rw_all {w:World} {b k:Nat} {l:List UInt8} (h:Blk w b (arr (rwF l) (k * 3) (k * 3)) 205):RwL w (some ⟨b,0,none⟩) l k:=by
 refine Or.inr ⟨b,rfl,h.lt,fun i hi=>⟨?_,?_,?_⟩⟩
 ·rw [h.cell,arr_at _ _ _ _ (by omega),if_pos (by omega),rwF0]
 ·rw [h.cell,arr_at _ _ _ _ (by omega),if_pos (by omega),rwF1]
 ·rw [h.cell,arr_at _ _ _ _ (by omega),if_pos (by omega),rwF2]
def RoR (w:World) (l:List UInt8) (K:Nat) (e:Ending) (w':World):Prop:=∃a c,e=.returned (.slice a K c)∧RwL w' a l K∧Below w.heap.size w w'
def kR (l:List UInt8):Nat:=if rowB l then n2 l 2 else 0
set_option maxRecDepth 8000 in
set_option maxHeartbeats 2000000 in
theorem rows_any (t:ByteArray) (w:World) (hs:t.size≤1073741824) :
  Calls Tryz.prog 152 #[.string t] w (RoR w t.data.toList (kR t.data.toList)):=by
 have hs':(t.size:Int)≤1073741824:=by omega
 have HN:=hide (show rowB t.data.toList=false→kR t.data.toList=0 from fun h=>by unfold kR;rw [h];rfl)
 have HY:=hide (show rowB t.data.toList=true→kR t.data.toList=n2 t.data.toList 2 from fun h=>by unfold kR;rw [h];rfl)
 have hT:=@rowB_t t.data.toList
 rw [←Lib.size_eq] at hT
 have HT:=hide hT
 have HF:Hid (¬(4≤t.size∧t.data.toList.take 2=[0,0]∧4+8 * n2 t.data.toList 2≤t.size)→kR t.data.toList=0):=hide (fun h=>HN.out (by cases e:rowB t.data.toList;rfl;exact absurd (HT.out.1 e) h))
 clear hT
 generalize kR t.data.toList=KR at *
 by_cases h1:t.size < 4
 ·have h1':(t.size:Int) < 4:=by omega
  obtain rfl:=HF.out (by omega)
  go_enter Tryz.func152,Tryz.ntmps152
  go_wp2_with fail
  go_ret
  exact ⟨none,0,rfl,Or.inl rfl,Below.refl _ _⟩
 have h1':¬(t.size:Int) < 4:=by omega
 have h1b:(2:Int)≤(t.size:Int):=by omega
 have hq:=head_eq t 2 [0,0]
 by_cases h2:t.data.toList.take 2=[0,0]
 case neg=>
  obtain rfl:=HF.out (fun h=>h2 h.2.1)
  rw [decide_eq_false h2] at hq
  clear h2
  go_enter Tryz.func152,Tryz.ntmps152
  go_wp2_with fail
  go_ret
  exact ⟨none,0,rfl,Or.inl rfl,Below.refl _ _⟩
 rw [decide_eq_true h2] at hq
 have C2:=hide (fun w=>two_any t 2 2 w rfl (by omega) hs)
 have bk:=n2_lt t.data.toList 2
 by_cases h3:4+8 * n2 t.data.toList 2≤t.size
 case neg=>
  obtain rfl:=HF.out (fun h=>h3 h.2.2)
  clear HF HN HY HT h2
  generalize n2 t.data.toList 2=K at *
  have h3':(t.size:Int) < 4+8 * (K:Int):=by omega
  have k0:(0:Int)≤(K:Int):=by omega
  have k1:(K:Int)≤65535:=by omega
  go_enter Tryz.func152,Tryz.ntmps152
  go_wp2_with fail
  refine (C2.out _).mono ?_
  rintro e w1 ⟨rfl,m,hw⟩
  subst hw
  go_wp2_with fail
  go_ret
  exact ⟨none,0,rfl,Or.inl rfl,below_drewN (Below.refl _ _) _⟩
 obtain rfl:=HY.out (HT.out.2 ⟨by omega,h2,h3⟩)
 have CT:=hide (fun (j:Nat) (z:Int) (w:World) (hz:z=(j:Int)) (h:j+2≤t.size)=>two_any t j z w hz h hs)
 have CF:=hide (fun (j:Nat) (z:Int) (w:World) (hz:z=(j:Int)) (h:j+4≤t.size)=>four_any t j z w hz h hs)
 clear HF HN HY HT h2
 have H3:=hide h3
 generalize n2 t.data.toList 2=K at *
 have h3':¬(t.size:Int) < 4+8 * (K:Int):=by omega
 have k0:(0:Int)≤(K:Int):=by omega
 have k1:(K:Int)≤65535:=by omega
 have HMK:=make_rows K (by omega)
 rw [←arr_zero (rwF t.data.toList)] at HMK
 clear h3
 go_enter Tryz.func152,Tryz.ntmps152
 go_wp2_with fail
 refine (C2.out _).mono ?_
 rintro e w1 ⟨rfl,m,hw⟩
 subst hw
 have HBW:=hide (show Below w.heap.size w ((w.drewN m).alloc (.cells (arr (rwF t.data.toList) (K * 3) 0) 205)) from (below_drewN (Below.refl _ _) m).alloc (Nat.le_refl _) _)
 have HBL:=hide (show Blk ((w.drewN m).alloc (.cells (arr (rwF t.data.toList) (K * 3) 0) 205)) w.heap.size (arr (rwF t.data.toList) (K * 3) (0 * 3)) 205 from Blk.new _ _ _)
 go_wp2_with fail
 go_loopw [27] (fun vi wr=>∃(i:Nat),vi=.int .i64 i∧Hid (i≤K∧Blk wr w.heap.size (arr (rwF t.data.toList) (K * 3) (i * 3)) 205∧Below w.heap.size w wr)) (fun vi _=>K - (intOf vi).toNat)
 case atStart=>exact ⟨0,rfl,hide ⟨by omega,HBL.out,HBW.out⟩⟩
 case round=>
  obtain ⟨i,rfl,HV⟩:=hrel
  obtain ⟨hi,hbl,hbw⟩:=HV.out
  have hi0:(0:Int)≤(i:Int):=by omega
  have HB1:=hide hbl
  have HB2:=hide hbw
  clear HV hbw HBL HBW
  by_cases hlt:i < K
  case neg=>
   have hlt':¬(i:Int) < (K:Int):=by omega
   obtain rfl:i=K:=by omega
   clear hbl
   go_wp2_with fail
   go_ret
   exact ⟨_,_,rfl,rw_all HB1.out,HB2.out⟩
  have hlt':(i:Int) < (K:Int):=by omega
  obtain ⟨z0,z1,z2⟩:=rw_cells hbl hlt
  have f0:=hbl.frozen (i * 3)
  have f1:=hbl.frozen (i * 3+1)
  have f2:=hbl.frozen (i * 3+2)
  have zl:=hbl.lt
  have C1:=hide (fun z w (hz:z=((4+8 * i:Nat):Int))=>CT.out (4+8 * i) z w hz (by have:=H3.out;omega))
  have C3:=hide (fun z w (hz:z=((6+8 * i:Nat):Int))=>CT.out (6+8 * i) z w hz (by have:=H3.out;omega))
  have C4:=hide (fun z w (hz:z=((8+8 * i:Nat):Int))=>CF.out (8+8 * i) z w hz (by have:=H3.out;omega))
  have HST:=hide (fun m=>rw_step (HB1.out.drewN m) hlt)
  have e1:n2 t.data.toList (4+8 * i)=rp t.data.toList i:=rfl
  have e2:n2 t.data.toList (6+8 * i)=re t.data.toList i:=rfl
  have e3:n4 t.data.toList (8+8 * i)=rpl t.data.toList i:=rfl
  rw [e1] at C1
  rw [e2] at C3
  rw [e3] at C4
  generalize ((rp t.data.toList i:Nat):Int)=X at *
  generalize ((re t.data.toList i:Nat):Int)=Y at *
  generalize ((rpl t.data.toList i:Nat):Int)=Z at *
  clear hbl e1 e2 e3
  go_wp2_with fail
  refine (C1.out _ _ (by omega)).mono ?_
  rintro e w1 ⟨rfl,m1,hw⟩
  subst hw
  go_wp2_with fail
  refine (C3.out _ _ (by omega)).mono ?_
  rintro e w1 ⟨rfl,m2,hw⟩
  subst hw
  go_wp2_with fail
  refine (C4.out _ _ (by omega)).mono ?_
  rintro e w1 ⟨rfl,m3,hw⟩
  subst hw
  go_wp2_with fail
  go_roundw
  case rel=>exact ⟨i+1,by go_num,hide ⟨by omega,HST.out _,((((below_drewN HB2.out _).setCell (p:=⟨w.heap.size,i * 3,none⟩) (Nat.le_refl _) _).setCell (p:=⟨w.heap.size,i * 3+1,none⟩) (Nat.le_refl _) _).setCell (p:=⟨w.heap.size,i * 3+2,none⟩) (Nat.le_refl _) _)⟩⟩
  case measure=>simp [intOf];omega
theorem groups_any (L:Nat) (s:ByteArray) (n:Nat) (w:World) (hs:s.size≤1073741824) (hn:n≤4096) (hS:TkS w L []) :
  Calls Tryz.prog 155 #[.string s,.int .i64 (n:Int),.func (.func 120) #[] #[.pointer (some ⟨L,0,none⟩)]] w (TkR w L (twV s.data.toList n)):=by
 cases h:twB s.data.toList
 ·rw [twV_head h]
  exact (groups_bad L s n w hs h).mono fun e w' ⟨h1,m,h2⟩=>⟨h1,by rw [h2];exact (TF.refl _ _).drewN _⟩
 ·exact groups_ok L s n w hs h hn hS
theorem ext_drop (s:ByteArray) (k:Nat):(s.extract (min k s.size) s.size).data.toList=s.data.toList.drop k:=by
 rw [Lib.extract_data]
 by_cases h:k≤s.size
 ·rw [Nat.min_eq_left h,List.take_of_length_le (by rw [List.length_drop,←Lib.size_eq];omega)]
 ·rw [Nat.min_eq_right (by omega),List.drop_eq_nil_of_le (by rw [←Lib.size_eq];omega),List.drop_eq_nil_of_le (by rw [←Lib.size_eq];omega)]
  simp
theorem ext_le (s:ByteArray) (k:Nat):(s.extract (min k s.size) s.size).size≤s.size:=by rw [ByteArray.size_extract];omega
theorem kR_t {l:List UInt8} (h:rowB l=true):kR l=n2 l 2:=by unfold kR;rw [h];rfl
set_option maxHeartbeats 1000000 in
theorem walk_wide (L:Nat) (t:ByteArray) (n i:Nat) (w:World) (hs:t.size≤1073741824) (hn:n≤4096) (hS:TkS w L []) (hr:rowB t.data.toList=true) (hw:wiI t.data.toList=some i) :
  Calls Tryz.prog 121 #[.string t,.int .i64 (n:Int),.func (.func 120) #[] #[.pointer (some ⟨L,0,none⟩)]] w (TkR w L (redV t.data.toList n)):=by
 have hv:redV t.data.toList n=twV (t.data.toList.drop (rpl t.data.toList i)) n:=by unfold redV redW;rw [hr,hw];rfl
 rw [hv]
 have CR:=hide (rows_any t w hs)
 rw [kR_t hr] at CR
 have hbk:=n2_lt t.data.toList 2
 have CI:=hide (fun a c w (h:RwL w a t.data.toList (n2 t.data.toList 2))=>index_w a t.data.toList (n2 t.data.toList 2) c w (by omega) h)
 have hw':fstI (fun j=>wiR (rp t.data.toList j) (re t.data.toList j)) (n2 t.data.toList 2)=some i:=hw
 rw [hw'] at CI
 have hi:=(fstI_get hw').1
 have bp:=n4_lt t.data.toList (8+8 * i)
 have hpl:rpl t.data.toList i=n4 t.data.toList (8+8 * i):=rfl
 have CF:=hide (fun w=>from_any t (rpl t.data.toList i) w hs (by omega))
 have CG:=hide (fun w (h:TkS w L [])=>groups_any L (t.extract (min (rpl t.data.toList i) t.size) t.size) n w (Nat.le_trans (ext_le t _) hs) hn h)
 rw [ext_drop] at CG
 have HS:=hide hS
 have hn':(n:Int)≤4096:=by omega
 generalize twV (t.data.toList.drop (rpl t.data.toList i)) n=RR at *
 generalize t.extract (min (rpl t.data.toList i) t.size) t.size=SX at *
 obtain ⟨K,hK⟩:∃K,n2 t.data.toList 2=K:=⟨_,rfl⟩
 rw [hK] at CR CI hi hbk
 have k1:(i:Int) < (K:Int):=by omega
 have k0:(0:Int)≤(i:Int):=by omega
 have kb:(K:Int)≤65535:=by omega
 have HI:=hide hi
 clear hS hr hw hv hw' bp hpl hK hbk
 go_enter Tryz.func121,Tryz.ntmps121
 go_wp2_with fail
 refine CR.out.mono ?_
 rintro e w1 ⟨a,c,rfl,hr1,hb1⟩
 have HR1:=hide hr1
 have HB1:=hide hb1
 clear hr1 hb1
 go_wp2_with fail
 refine (CI.out _ _ _ HR1.out).mono ?_
 rintro e w2 ⟨rfl,hb2⟩
 have HB2:=hide (HB1.out.trans (hb2.mono HB1.out.size))
 rcases HR1.out.below hb2 with hz | ⟨b,rfl,hbl,hcell⟩
 ·have:=HI.out;omega
 obtain ⟨_,_,z2⟩:=hcell i HI.out
 have HS2:=hide (HS.out.below HB2.out)
 have HF2:=hide (TF.of_below HB2.out (Nat.le_of_lt HS.out.lt))
 generalize ((rpl t.data.toList i:Nat):Int)=PL at *
 have hix:ixV (some i)=(i:Int):=rfl
 rw [hix]
 clear hcell hb2 HR1 hi
 go_wp2_with fail
 refine (CF.out _).mono ?_
 rintro e w3 ⟨rfl,hw3⟩
 subst hw3
 go_wp2_with fail
 cases RR with
 | none=>
  refine (CG.out _ HS2.out).mono ?_
  rintro e w4 ⟨rfl,ht⟩
  have HT:=hide (HF2.out.trans ht)
  clear ht
  go_wp2_with fail
  go_ret
  exact ⟨rfl,HT.out⟩
 | some cs=>
  refine (CG.out _ HS2.out).mono ?_
  rintro e w4 ⟨rfl,hk,ht⟩
  have HK:=hide hk
  have HT:=hide (HF2.out.trans ht)
  clear ht hk
  go_wp2_with fail
  go_ret
  exact ⟨rfl,HK.out,HT.out⟩
def RdR (w:World) (R:Option (List Ch)) (e:Ending) (w':World):Prop:=match R with
 | some cs=>∃v,e=.returned (.tuple #[v,.int .i64 0])∧CRow w' (w.heap.size+1) v cs∧Below w.heap.size w w'
 | none=>e=.returned (.tuple #[.slice none 0 0,.int .i64 110])∧Below w.heap.size w w'
theorem read_by (t:ByteArray) (n:Nat) (w:World) (h1:1≤n) (h2:n≤4096) (R:Option (List Ch))
  (h:∀w L,TkS w L []→Calls Tryz.prog 121 #[.string t,.int .i64 (n:Int),.func (.func 120) #[] #[.pointer (some ⟨L,0,none⟩)]] w (TkR w L R)) :
  Calls Tryz.prog 79 #[.string t,.int .i64 (n:Int)] w (RdR w R):=by
 have hmf:∀(fn:Fn) (first cap:Array Value) (w:World),(Instr.makeFunc fn first cap).run Tryz.prog w=.ok (.func fn first cap) w:=fun _ _ _ _=>rfl
 have t1:¬(n:Int) < 1:=by omega
 have t2:¬(4096:Int) < (n:Int):=by omega
 have hbk:Blk (w.alloc (.cells #[.slice none 0 0] 28)) w.heap.size #[.slice none 0 0] 28:=Blk.new _ _ _
 have C:=hide (h (w.alloc (.cells #[.slice none 0 0] 28)) w.heap.size ⟨_,hbk,CRow.nil _ _⟩)
 have HB:=hide ((Below.refl w.heap.size w).alloc (Nat.le_refl _) (.cells #[.slice none 0 0] 28))
 clear h hbk h1 h2
 go_enter Tryz.func79,Tryz.ntmps79
 go_wp2_with fail
 cases R with
 | none=>
  refine C.out.mono ?_
  rintro e w1 ⟨rfl,ht⟩
  have HT:=hide (HB.out.trans ht.below)
  clear ht
  go_wp2_with fail
  go_ret2
  exact ⟨rfl,HT.out⟩
 | some cs=>
  refine C.out.mono ?_
  rintro e w1 ⟨rfl,⟨v,hb1,hr1⟩,ht⟩
  have HT:=hide (HB.out.trans ht.below)
  have HR1:=hide hr1
  obtain ⟨a,c,rfl,_⟩:=hr1.lst
  have z0:w1.cell? ⟨w.heap.size,0,none⟩=some (.slice a cs.length c):=hb1.cell 0
  clear ht hr1 hb1
  go_wp2_with fail
  go_ret2
  exact ⟨_,rfl,HR1.out,HT.out⟩
end Go.Proofs.YtpaadbnlhapdbaaGreatDoor.C11
