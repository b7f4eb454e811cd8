/-
  Joined: M9Opn, M9Sam, M9RB, M9RG.
-/
import Derived.ChangeAlike
import Derived.ChangeArms
import Derived.ChangeKeysEq
import Derived.ChangeSlices
import Derived.Deep.Slices
import Derived.Laws.Concat
import Derived.OpenShut
import Derived.ProofKit
import Derived.RegionTactic
import Derived.Test.YtpaadbnlhapdbaaGreatDoorL33
namespace Go.Proofs.YtpaadbnlhapdbaaGreatDoor
open Go.ChangeShapes Go.WideShapes Go.RowKit Go.Deep
structure MIn (w:World) (m:Mt) (aa:Option Addr) (na:Nat) (ab:Option Addr) (nb:Nat):Prop where
 up:i64 m.up
 hna:m.ad.length=na
 hnb:m.be.length=nb
 ma:na≤9223372036854775807
 mb:nb≤9223372036854775807
 la:Lst w aa m.ad
 lb:Lst w ab m.be
 xa:∀x∈m.ad,i64 x
 xb:∀x∈m.be,i64 x
section
variable {H:Type} {enc:TypeId × Value→H} {W:World} {base:Nat} {sp:Nat→Bool} {held:Bool}
variable {r:Reach} {b0:Nat} {v:Value} {d:DataW H} {pl:List MemPlace}
end
end Go.Proofs.YtpaadbnlhapdbaaGreatDoor
namespace Go.Proofs.YtpaadbnlhapdbaaGreatDoor
open Go.RowKit Go.Deep
set_option linter.unusedVariables false
theorem ksame_any (a b:Option Addr) (len ca cb:Nat) (zs:List Int) (w:World) (hl:zs.length=len) (h4:len≤1048576) (hA:Lst w a zs) (hB:Lst w b zs) :
  Calls Tryz.prog 12 #[.slice a len ca,.slice b len cb] w fun e w'=>e=.returned (.bool true)∧∃n,w'=w.drewN n:=by
 have HA:=hide hA
 have HB:=hide hB
 have Hl:=hide hl
 have h5:(len:Int)≤1048576:=by omega
 have t0:((len:Int) != (len:Int))=false:=by simp
 clear hA hB hl
 go_enter Tryz.func12,Tryz.ntmps12
 go_wp2_with fail
 go_loopw [5] (fun vi wr=>∃(k n:Nat),vi=.int .i64 k∧wr=w.drewN n∧Hid (k≤len)) (fun vi _=>len - (intOf vi).toNat)
 case atStart=>exact ⟨0,0,rfl,rfl,hide (by omega)⟩
 case round=>
  obtain ⟨k,n,rfl,rfl,HK⟩:=hrel
  by_cases hlt:k < len
  ·have hlt':(k:Int) < (len:Int):=by omega
   have hl:=Hl.out
   rcases HA.out with hz | ⟨b1,o1,rfl,hb1,hcell1⟩
   ·rw [hz] at hl;simp at hl;omega
   rcases HB.out with hz | ⟨b2,o2,rfl,hb2,hcell2⟩
   ·rw [hz] at hl;simp at hl;omega
   have hc1:=hcell1 k (by omega)
   have hc2:=hcell2 k (by omega)
   generalize zs.getD k 0=z at *
   clear hcell1 hcell2 hl
   go_wp2_with fail
   go_quiet (fail)
   go_wp2
   go_roundw
   case rel=>exact ⟨k+1,_,by go_num,rfl,hide (by omega)⟩
   case measure=>simp [intOf];omega
  ·have hlt':¬(k:Int) < (len:Int):=by omega
   go_wp2
   go_ret
   exact ⟨rfl,n,rfl⟩
theorem eqi_d (d:Nat) (x y:Int) (w:World):(Op.equalIn (d+1) 3 (.int .i64 x) (.int .i64 y)).run Tryz.prog w=.ok (x == y) w:=by
 simp [Op.equalIn,run_underlying Tryz.underlying3,go_sem]
theorem info_exi:∃i,Tryz.prog.info? 3=some i:=⟨_,(info_parts5 info_int).choose_spec.1⟩
set_option linter.unusedSimpArgs false in
theorem eqb_d (d:Nat) (a0 a1 a2 a3:Int) (w:World):(Op.equalIn (d+1+1) 23 (.agg #[.int .i64 a0,.int .i64 a1,.int .i64 a2,.int .i64 a3]) (.agg #[.int .i64 a0,.int .i64 a1,.int .i64 a2,.int .i64 a3])).run Tryz.prog w=.ok true w:=by
 obtain ⟨i,hi⟩:=info_exi
 have hc:Tryz.prog.cellsOf 3=1:=by kernel_rfl
 have hp0:∀(b0 b1 b2 b3:Int) (w:World),(part 3 #[.int .i64 b0,.int .i64 b1,.int .i64 b2,.int .i64 b3] 0).run Tryz.prog w=.ok (.int .i64 b0) w:=fun _ _ _ _ _=>by kernel_rfl
 have hp1:∀(b0 b1 b2 b3:Int) (w:World),(part 3 #[.int .i64 b0,.int .i64 b1,.int .i64 b2,.int .i64 b3] 1).run Tryz.prog w=.ok (.int .i64 b1) w:=fun _ _ _ _ _=>by kernel_rfl
 have hp2:∀(b0 b1 b2 b3:Int) (w:World),(part 3 #[.int .i64 b0,.int .i64 b1,.int .i64 b2,.int .i64 b3] 2).run Tryz.prog w=.ok (.int .i64 b2) w:=fun _ _ _ _ _=>by kernel_rfl
 have hp3:∀(b0 b1 b2 b3:Int) (w:World),(part 3 #[.int .i64 b0,.int .i64 b1,.int .i64 b2,.int .i64 b3] 3).run Tryz.prog w=.ok (.int .i64 b3) w:=fun _ _ _ _ _=>by kernel_rfl
 rw [run_equalIn_array (P:=Tryz.prog) (d:=d+1) (hu:=Tryz.underlying23) (hi:=hi),hc]
 simp [List.range,List.range.loop,Op.eqItems,hp0,hp1,hp2,hp3,eqi_d]
theorem eqb (a0 a1 a2 a3:Int) (w:World):(Op.equalIn 10000 23 (.agg #[.int .i64 a0,.int .i64 a1,.int .i64 a2,.int .i64 a3]) (.agg #[.int .i64 a0,.int .i64 a1,.int .i64 a2,.int .i64 a3])).run Tryz.prog w=.ok true w:=eqb_d 9998 a0 a1 a2 a3 w
set_option maxRecDepth 8000 in
set_option maxHeartbeats 4000000 in
theorem msame_any (m:Mt) (a1 a2 b1 b2:Option Addr) (na nb ca1 ca2 cb1 cb2:Nat) (w:World) (hna:m.ad.length=na) (hnb:m.be.length=nb) (hma:na≤1048576) (hmb:nb≤1048576) (h1:Lst w a1 m.ad) (h2:Lst w a2 m.ad) (h3:Lst w b1 m.be) (h4:Lst w b2 m.be) :
  Calls Tryz.prog 21 #[.agg (mcs m (.slice a1 na ca1) (.slice b1 nb cb1)),.agg (mcs m (.slice a2 na ca2) (.slice b2 nb cb2))] w fun e w'=>e=.returned (.bool true)∧Below w.heap.size w w':=by
 have CA:=hide (fun (u:World) (hu:Below w.heap.size w u)=>ksame_any a1 a2 na ca1 ca2 m.ad u hna hma (h1.below hu) (h2.below hu))
 have CB:=hide (fun (u:World) (hu:Below w.heap.size w u)=>ksame_any b1 b2 nb cb1 cb2 m.be u hnb hmb (h3.below hu) (h4.below hu))
 obtain ⟨up,sc,de,ga,x0,x1,x2,x3,lg,ad,be⟩:=m
 clear hna hnb hma hmb h1 h2 h3 h4
 simp only [mcs] at ⊢
 have EB:=eqb x0 x1 x2 x3
 go_enter Tryz.func21,Tryz.ntmps21
 go_wp2_with fail
 have hb2:=((Below.refl w.heap.size w).alloc (Nat.le_refl _) (.cells #[.int .i64 up,.int .i64 sc,.int .i64 de,.int .i64 ga,.int .i64 x0,.int .i64 x1,.int .i64 x2,.int .i64 x3,.bool lg,.slice a1 na ca1,.slice b1 nb cb1] 26)).alloc (by simp) (.cells #[.int .i64 up,.int .i64 sc,.int .i64 de,.int .i64 ga,.int .i64 x0,.int .i64 x1,.int .i64 x2,.int .i64 x3,.bool lg,.slice a2 na ca2,.slice b2 nb cb2] 26)
 have HB2:=hide hb2
 refine (CA.out _ hb2).mono ?_
 rintro e w1 ⟨rfl,n1,rfl⟩
 clear hb2
 go_wp2_with fail
 refine (CB.out _ (below_drewN HB2.out n1)).mono ?_
 rintro e w1 ⟨rfl,n2,rfl⟩
 go_wp2_with fail
 go_ret
 exact ⟨rfl,below_drewN HB2.out _⟩
theorem short_any (x:Int) (w:World):Calls Tryz.prog 84 #[.int .i64 x] w fun e w'=>e=.returned (.bool (wiB (-32768) 32767 [x]))∧w'=w:=by
 rw [wiB_one]
 by_cases h1:-32768≤x
 ·by_cases h2:x≤32767
  ·rw [show decide (-32768≤x)=true by simp;omega,show decide (x≤32767)=true by simp;omega]
   go_enter Tryz.func84,Tryz.ntmps84
   go_wp2_with fail
   go_ret
   exact ⟨rfl,rfl⟩
  ·rw [show decide (-32768≤x)=true by simp;omega,show decide (x≤32767)=false by simp;omega]
   go_enter Tryz.func84,Tryz.ntmps84
   go_wp2_with fail
   go_ret
   exact ⟨rfl,rfl⟩
 ·rw [show decide (-32768≤x)=false by simp;omega]
  go_enter Tryz.func84,Tryz.ntmps84
  go_wp2_with fail
  go_ret
  exact ⟨rfl,rfl⟩
end Go.Proofs.YtpaadbnlhapdbaaGreatDoor
namespace Go.Proofs.YtpaadbnlhapdbaaGreatDoor
open Go.RowKit Go.Deep
set_option linter.unusedVariables false
set_option linter.unusedSimpArgs false
theorem wiB_f1 {lo hi x:Int} (h:x < lo∨hi < x):wiB lo hi [x]=false:=by
 rw [wiB_one]
 rcases h with h | h
 ·rw [show decide (lo≤x)=false by simp;omega];rfl
 ·rw [show decide (x≤hi)=false by simp;omega,Bool.and_false]
theorem wiB_t1 {lo hi x:Int} (h:lo≤x) (h2:x≤hi):wiB lo hi [x]=true:=by
 rw [wiB_one,show decide (lo≤x)=true by simp;omega,show decide (x≤hi)=true by simp;omega];rfl
theorem wiB_c (lo hi x:Int) (r:List Int):wiB lo hi (x :: r)=(wiB lo hi [x] && wiB lo hi r):=by
 simp [wiB]
set_option maxRecDepth 8000 in
set_option maxHeartbeats 8000000 in
theorem rgood_any (m:Mt) (aa ab:Option Addr) (na ca nb cb:Nat) (w:World) (hM:MIn w m aa na ab nb) (hma:na≤1000000) (hmb:nb≤1000000) :
  Calls Tryz.prog 46 #[.agg (mcs m (.slice aa na ca) (.slice ab nb cb))] w fun e w'=>e=.returned (.bool (goodB m))∧Below w.heap.size w w':=by
 have CSH:=hide short_any
 obtain ⟨up,sc,de,ga,b0,b1,b2,b3,lg,ad,be⟩:=m
 have HB:=hide ((Below.refl w.heap.size w).alloc (Nat.le_refl _) (.cells #[.int .i64 up,.int .i64 sc,.int .i64 de,.int .i64 ga,.int .i64 b0,.int .i64 b1,.int .i64 b2,.int .i64 b3,.bool lg,.slice aa na ca,.slice ab nb cb] 26))
 have KV:=hide (Blk.new w #[.int .i64 up,.int .i64 sc,.int .i64 de,.int .i64 ga,.int .i64 b0,.int .i64 b1,.int .i64 b2,.int .i64 b3,.bool lg,.slice aa na ca,.slice ab nb cb] 26)
 have HG:Hid (goodB ⟨up,sc,de,ga,b0,b1,b2,b3,lg,ad,be⟩=(wiB 16 16384 [up] && ((wiB (-32768) 32767 [sc] && (wiB (-32768) 32767 [de] && wiB (-32768) 32767 [ga])) && ((wiB (-32768) 32767 [b0] && (wiB (-32768) 32767 [b1] && (wiB (-32768) 32767 [b2] && wiB (-32768) 32767 [b3]))) && (wiB 1 4096 [(na:Int)] && (((nb:Int) == (na:Int)) && (wiB 0 65535 ad && wiB (-32768) 32767 be))))))):=hide (by
  have h1:=hM.hna
  have h2:=hM.hnb
  simp only at h1 h2
  unfold goodB
  simp only [h1,h2]
  rw [wiB_c _ _ sc,wiB_c _ _ de,wiB_c _ _ b0,wiB_c _ _ b1,wiB_c _ _ b2])
 have HM:=hide hM
 have hma':(na:Int)≤1000000:=by omega
 have hmb':(nb:Int)≤1000000:=by omega
 clear hM hma hmb
 simp only [mcs] at ⊢
 generalize goodB ⟨up,sc,de,ga,b0,b1,b2,b3,lg,ad,be⟩=GB at HG ⊢
 by_cases u1:up < 16
 ·have f:=wiB_f1 (lo:=16) (hi:=16384) (x:=up) (Or.inl u1)
  rw [f] at HG
  have e0:=HG.out
  simp only [Bool.false_and,Bool.and_false,Bool.true_and] at e0
  subst e0
  clear HG
  go_enter Tryz.func46,Tryz.ntmps46
  go_wp2_with (go_at_call 84;refine (CSH.out _ _).mono ?_;rintro e w1 ⟨rfl,rfl⟩)
  go_ret
  exact ⟨rfl,HB.out⟩
 by_cases u2:16384 < up
 ·have f:=wiB_f1 (lo:=16) (hi:=16384) (x:=up) (Or.inr u2)
  rw [f] at HG
  have e0:=HG.out
  simp only [Bool.false_and,Bool.and_false,Bool.true_and] at e0
  subst e0
  clear HG
  go_enter Tryz.func46,Tryz.ntmps46
  go_wp2_with (go_at_call 84;refine (CSH.out _ _).mono ?_;rintro e w1 ⟨rfl,rfl⟩)
  go_ret
  exact ⟨rfl,HB.out⟩
 have t1:=wiB_t1 (lo:=16) (hi:=16384) (x:=up) (by omega) (by omega)
 rw [t1] at HG
 clear t1
 cases qsc:wiB (-32768) 32767 [sc]
 ·rw [qsc] at HG
  have e0:=HG.out
  simp only [Bool.false_and,Bool.and_false,Bool.true_and] at e0
  subst e0
  clear HG
  go_enter Tryz.func46,Tryz.ntmps46
  go_wp2_with (go_at_call 84;refine (CSH.out _ _).mono ?_;rintro e w1 ⟨rfl,rfl⟩)
  go_ret
  exact ⟨rfl,HB.out⟩
 rw [qsc] at HG
 cases qde:wiB (-32768) 32767 [de]
 ·rw [qde] at HG
  have e0:=HG.out
  simp only [Bool.false_and,Bool.and_false,Bool.true_and] at e0
  subst e0
  clear HG
  go_enter Tryz.func46,Tryz.ntmps46
  go_wp2_with (go_at_call 84;refine (CSH.out _ _).mono ?_;rintro e w1 ⟨rfl,rfl⟩)
  go_ret
  exact ⟨rfl,HB.out⟩
 rw [qde] at HG
 cases qga:wiB (-32768) 32767 [ga]
 ·rw [qga] at HG
  have e0:=HG.out
  simp only [Bool.false_and,Bool.and_false,Bool.true_and] at e0
  subst e0
  clear HG
  go_enter Tryz.func46,Tryz.ntmps46
  go_wp2_with (go_at_call 84;refine (CSH.out _ _).mono ?_;rintro e w1 ⟨rfl,rfl⟩)
  go_ret
  exact ⟨rfl,HB.out⟩
 rw [qga] at HG
 by_cases n1:na < 1
 ·have n1':(na:Int) < 1:=by omega
  have f:=wiB_f1 (lo:=1) (hi:=4096) (x:=(na:Int)) (Or.inl n1')
  rw [f] at HG
  have e0:=HG.out
  simp only [Bool.false_and,Bool.and_false,Bool.true_and] at e0
  subst e0
  clear HG
  go_enter Tryz.func46,Tryz.ntmps46
  go_wp2_with (go_at_call 84;refine (CSH.out _ _).mono ?_;rintro e w1 ⟨rfl,rfl⟩)
  go_ret
  exact ⟨rfl,HB.out⟩
 have n1':¬(na:Int) < 1:=by omega
 by_cases n2:4096 < na
 ·have n2':(4096:Int) < (na:Int):=by omega
  have f:=wiB_f1 (lo:=1) (hi:=4096) (x:=(na:Int)) (Or.inr n2')
  rw [f] at HG
  clear n2
  have e0:=HG.out
  simp only [Bool.false_and,Bool.and_false,Bool.true_and] at e0
  subst e0
  clear HG
  go_enter Tryz.func46,Tryz.ntmps46
  go_wp2_with (go_at_call 84;refine (CSH.out _ _).mono ?_;rintro e w1 ⟨rfl,rfl⟩)
  go_ret
  exact ⟨rfl,HB.out⟩
 have n2':¬(4096:Int) < (na:Int):=by omega
 have t1:=wiB_t1 (lo:=1) (hi:=4096) (x:=(na:Int)) (by omega) (by omega)
 rw [t1] at HG
 have HN:=hide (And.intro n1 n2)
 clear t1 n1 n2
 by_cases n3:nb=na
 case neg=>
  have n3':((nb:Int) == (na:Int))=false:=by simp;omega
  have n3b:(nb == na)=false:=by simp [n3]
  have n3c:¬(nb:Int)=(na:Int):=by omega
  have n3d:((nb:Int) != (na:Int))=true:=by simp;omega
  have n3e:(nb != na)=true:=by simp [n3]
  rw [n3'] at HG
  have e0:=HG.out
  simp only [Bool.false_and,Bool.and_false,Bool.true_and] at e0
  subst e0
  clear HG
  go_enter Tryz.func46,Tryz.ntmps46
  go_wp2_with (go_at_call 84;refine (CSH.out _ _).mono ?_;rintro e w1 ⟨rfl,rfl⟩)
  go_ret
  exact ⟨rfl,HB.out⟩
 subst n3
 rw [show ((nb:Int) == (nb:Int))=true by simp] at HG
 go_enter Tryz.func46,Tryz.ntmps46
 go_wp2_with (go_at_call 84;refine (CSH.out _ _).mono ?_;rintro e w1 ⟨rfl,rfl⟩)
 generalize w.alloc (.cells #[.int .i64 up,.int .i64 sc,.int .i64 de,.int .i64 ga,.int .i64 b0,.int .i64 b1,.int .i64 b2,.int .i64 b3,.bool lg,.slice aa nb ca,.slice ab nb cb] 26)=V at HB KV ⊢
 obtain ⟨x,hx⟩:∃x,w.heap.size=x:=⟨_,rfl⟩
 have KV2:Hid (Blk V x #[.int .i64 up,.int .i64 sc,.int .i64 de,.int .i64 ga,.int .i64 b0,.int .i64 b1,.int .i64 b2,.int .i64 b3,.bool lg,.slice aa nb ca,.slice ab nb cb] 26):=hx ▸ KV
 rw [hx]
 have KC:=hide (fun (u:World) (hu:Below V.heap.size V u)=>KV2.out.below hu)
 have HV:=hide (Below.refl V.heap.size V)
 have kk:=KC.out _ HV.out
 clear KV KV2 hx
 have c0:=kk.cell 0
 have c1:=kk.cell 1
 have c2:=kk.cell 2
 have c3:=kk.cell 3
 have c4:=kk.cell 4
 have c5:=kk.cell 5
 have c6:=kk.cell 6
 have c7:=kk.cell 7
 have c8:=kk.cell 8
 have c9:=kk.cell 9
 have c10:=kk.cell 10
 simp at c0 c1 c2 c3 c4 c5 c6 c7 c8 c9 c10
 have xlt:=kk.lt
 clear kk
 clear KC HV
 refine wp_loop_rounds 5 ?_
 rw [rounds_succ]
 go_wp2_with fail
 refine (CSH.out _ _).mono ?_
 rintro e w1 ⟨rfl,hw⟩
 replace hw:=hw.symm
 subst hw
 cases qb0:wiB (-32768) 32767 [b0]
 ·rw [qb0] at HG
  have e0:=HG.out
  simp only [Bool.false_and,Bool.and_false,Bool.true_and] at e0
  subst e0
  clear HG
  go_wp2_with fail
  go_ret
  exact ⟨rfl,HB.out⟩
 rw [qb0] at HG
 go_wp2_with fail
 rw [rounds_succ]
 go_wp2_with fail
 refine (CSH.out _ _).mono ?_
 rintro e w1 ⟨rfl,hw⟩
 replace hw:=hw.symm
 subst hw
 cases qb1:wiB (-32768) 32767 [b1]
 ·rw [qb1] at HG
  have e0:=HG.out
  simp only [Bool.false_and,Bool.and_false,Bool.true_and] at e0
  subst e0
  clear HG
  go_wp2_with fail
  go_ret
  exact ⟨rfl,HB.out⟩
 rw [qb1] at HG
 go_wp2_with fail
 rw [rounds_succ]
 go_wp2_with fail
 refine (CSH.out _ _).mono ?_
 rintro e w1 ⟨rfl,hw⟩
 replace hw:=hw.symm
 subst hw
 cases qb2:wiB (-32768) 32767 [b2]
 ·rw [qb2] at HG
  have e0:=HG.out
  simp only [Bool.false_and,Bool.and_false,Bool.true_and] at e0
  subst e0
  clear HG
  go_wp2_with fail
  go_ret
  exact ⟨rfl,HB.out⟩
 rw [qb2] at HG
 go_wp2_with fail
 rw [rounds_succ]
 go_wp2_with fail
 refine (CSH.out _ _).mono ?_
 rintro e w1 ⟨rfl,hw⟩
 replace hw:=hw.symm
 subst hw
 cases qb3:wiB (-32768) 32767 [b3]
 ·rw [qb3] at HG
  have e0:=HG.out
  simp only [Bool.false_and,Bool.and_false,Bool.true_and] at e0
  subst e0
  clear HG
  go_wp2_with fail
  go_ret
  exact ⟨rfl,HB.out⟩
 rw [qb3] at HG
 go_wp2_with fail
 rw [rounds_succ]
 go_wp2_with fail
 go_loop [5] (fun vi=>∃(i:Nat),vi=.int .i64 i∧Hid (i≤nb∧∀j,j < i→(0≤ad.getD j 0∧ad.getD j 0≤65535)∧(-32768≤be.getD j 0∧be.getD j 0≤32767))) (fun vi=>nb - (intOf vi).toNat)
 case atStart=>exact ⟨0,rfl,hide ⟨by omega,fun j hj=>by omega⟩⟩
 case round=>
  obtain ⟨i,rfl,HI⟩:=hrel
  obtain ⟨hi,hj⟩:=HI.out
  have HJ:=hide hj
  have hi0:(0:Int)≤(i:Int):=by omega
  clear HI hj
  by_cases hlt:i < nb
  case neg=>
   have hlt':¬(i:Int) < (nb:Int):=by omega
   have e1:wiB 0 65535 ad=true:=wiB_of fun j hj=>(HJ.out j (by have h:=HM.out.hna;simp only at h;omega)).1
   have e2:wiB (-32768) 32767 be=true:=wiB_of fun j hj=>(HJ.out j (by have h:=HM.out.hnb;simp only at h;omega)).2
   rw [e1,e2] at HG
   have e0:=HG.out
   simp only [Bool.false_and,Bool.and_false,Bool.true_and] at e0
   subst e0
   clear HG e1 e2 HJ
   go_wp2_with fail
   go_ret
   exact ⟨rfl,HB.out⟩
  have hlt':(i:Int) < (nb:Int):=by omega
  have hl1:=HM.out.hna
  have hl2:=HM.out.hnb
  simp only at hl1 hl2
  rcases HM.out.la.below HB.out with hz | ⟨p,po,rfl,hp,hcp⟩
  ·simp only at hz;rw [hz] at hl1;simp at hl1;omega
  rcases HM.out.lb.below HB.out with hz | ⟨q,qo,rfl,hq,hcq⟩
  ·simp only at hz;rw [hz] at hl2;simp at hl2;omega
  have a1:=hcp i (by simp only;omega)
  have a2:=hcq i (by simp only;omega)
  simp only at a1 a2
  have NA:=hide (fun h=>wiB_not (lo:=0) (hi:=65535) (zs:=ad) (k:=i) (by omega) h)
  have NB:=hide (fun h=>wiB_not (lo:=-32768) (hi:=32767) (zs:=be) (k:=i) (by omega) h)
  have NX:Hid (∀y z,y=ad.getD i 0→z=be.getD i 0→(0≤y∧y≤65535)→(-32768≤z∧z≤32767)→∀j,j < i+1→(0≤ad.getD j 0∧ad.getD j 0≤65535)∧(-32768≤be.getD j 0∧be.getD j 0≤32767)):=hide fun y z hy hz h1 h2 j hj=>by
   rcases Nat.lt_or_ge j i with h' | h'
   ·exact HJ.out j h'
   ·obtain rfl:j=i:=by omega
    rw [←hy,←hz];exact ⟨h1,h2⟩
  generalize ad.getD i 0=y at a1 NA NX
  generalize be.getD i 0=z at a2 NB NX
  clear hcp hcq hl1 hl2 HJ
  by_cases y1:y < 0
  ·rw [NA.out (by omega)] at HG
   have e0:=HG.out
   simp only [Bool.false_and,Bool.and_false,Bool.true_and] at e0
   subst e0
   clear HG
   go_wp2_with fail
   go_ret
   exact ⟨rfl,HB.out⟩
  by_cases y2:65535 < y
  ·rw [NA.out (by omega)] at HG
   have e0:=HG.out
   simp only [Bool.false_and,Bool.and_false,Bool.true_and] at e0
   subst e0
   clear HG
   go_wp2_with fail
   go_ret
   exact ⟨rfl,HB.out⟩
  cases z1:wiB (-32768) 32767 [z]
  ·rw [NB.out (by rw [wiB_one] at z1;simp at z1;omega)] at HG
   have e0:=HG.out
   simp only [Bool.false_and,Bool.and_false,Bool.true_and] at e0
   subst e0
   clear HG
   go_wp2_with fail
   refine (CSH.out _ _).mono ?_
   rintro e w1 ⟨rfl,rfl⟩
   go_wp2_with fail
   go_ret
   exact ⟨rfl,HB.out⟩
  ·have z2:-32768≤z∧z≤32767:=by rw [wiB_one] at z1;simpa using z1
   go_wp2_with fail
   refine (CSH.out _ _).mono ?_
   rintro e w1 ⟨rfl,hw⟩
   replace hw:=hw.symm
   subst hw
   go_wp2_with fail
   go_round
   case rel=>exact ⟨i+1,by go_num,hide ⟨by omega,NX.out y z rfl rfl (by omega) z2⟩⟩
   case measure=>simp [intOf];omega
end Go.Proofs.YtpaadbnlhapdbaaGreatDoor
