/-
  Joined: M9Un.
-/
import Derived.Outline
import Derived.WalkKit
import Derived.Test.YtpaadbnlhapdbaaGreatDoorL04
import Derived.Test.YtpaadbnlhapdbaaGreatDoorL06
import Derived.Test.YtpaadbnlhapdbaaGreatDoorL08
import Derived.Test.YtpaadbnlhapdbaaGreatDoorL30
namespace Go.Proofs.YtpaadbnlhapdbaaGreatDoor
open Go.RowKit Go.Deep
set_option linter.unusedVariables false
def unOk (up size:Int):Bool:=decide (16≤up) && (decide (1≤size) && inB size)
def unI (up u size:Int):Int:=if unOk up size then scV u size up else 0
def unB (up u size:Int):Bool:=if unOk up size then scB u size up else false
def wdI (up:Int) (ad:List Int) (g size:Int):Int:=if 0≤g∧g < ad.length then unI up (ad.getD g.toNat 0) size else 0
def wdB (up:Int) (ad:List Int) (g size:Int):Bool:=if 0≤g∧g < ad.length then unB up (ad.getD g.toNat 0) size else false
def i64 (x:Int):Prop:=-9223372036854775808≤x∧x≤9223372036854775807
set_option maxHeartbeats 2000000 in
theorem un_any (m:Mt) (aa ab:Option Addr) (na ca nb cb:Nat) (u size:Int) (w:World) (hup:i64 m.up) (hu:i64 u) (hs:i64 size) :
  Calls Tryz.prog 50 #[.agg (mcs m (.slice aa na ca) (.slice ab nb cb)),.int .i64 u,.int .i64 size] w fun e w'=>e=.returned (.tuple #[.int .i64 (unI m.up u size),.bool (unB m.up u size)])∧Below w.heap.size w w':=by
 obtain ⟨up,sc,de,ga,b0,b1,b2,b3,lg,ad,be⟩:=m
 have HB:=hide ((Below.refl w.heap.size w).alloc (Nat.le_refl _) (.cells (mcs ⟨up,sc,de,ga,b0,b1,b2,b3,lg,ad,be⟩ (.slice aa na ca) (.slice ab nb cb)) 26))
 simp only [mcs] at HB ⊢
 simp only at hup
 have CI:=hide (fun w=>in_any size w)
 have CS:=hide (fun w=>scale_any u size up hu.1 hu.2 hs.1 hs.2 hup.2 w)
 have E1:=hide (show unI up u size=if unOk up size then scV u size up else 0 from rfl)
 have E2:=hide (show unB up u size=if unOk up size then scB u size up else false from rfl)
 have E3:=hide (show unOk up size=(decide (16≤up) && (decide (1≤size) && inB size)) from rfl)
 generalize scV u size up=A at CS E1
 generalize scB u size up=B at CS E2
 generalize unI up u size=P at E1 ⊢
 generalize unB up u size=Q at E2 ⊢
 clear hup hu hs
 by_cases h1:up < 16
 ·have e:unOk up size=false:=by rw [E3.out,show decide (16≤up)=false by simp;omega];rfl
  have e1:=E1.out
  have e2:=E2.out
  rw [e] at e1 e2
  simp at e1 e2
  subst e1 e2
  clear E1 E2 E3 e
  go_enter Tryz.func50,Tryz.ntmps50
  go_wp2_with fail
  go_ret2
  exact ⟨rfl,HB.out⟩
 have d1:decide (16≤up)=true:=by simp;omega
 by_cases h2:size < 1
 ·have e:unOk up size=false:=by rw [E3.out,d1,show decide (1≤size)=false by simp;omega];rfl
  have e1:=E1.out
  have e2:=E2.out
  rw [e] at e1 e2
  simp at e1 e2
  subst e1 e2
  clear E1 E2 E3 e d1
  go_enter Tryz.func50,Tryz.ntmps50
  go_wp2_with fail
  go_ret2
  exact ⟨rfl,HB.out⟩
 have d2:decide (1≤size)=true:=by simp;omega
 cases h3:inB size
 ·have e:unOk up size=false:=by rw [E3.out,d1,d2,h3];rfl
  have e1:=E1.out
  have e2:=E2.out
  rw [e] at e1 e2
  simp at e1 e2
  subst e1 e2
  clear E1 E2 E3 e d1 d2
  go_enter Tryz.func50,Tryz.ntmps50
  go_wp2_with (go_at_call 51;refine (CI.out _).mono ?_;rintro e w1 ⟨rfl,rfl⟩)
  go_ret2
  exact ⟨rfl,HB.out⟩
 ·have e:unOk up size=true:=by rw [E3.out,d1,d2,h3];rfl
  have e1:=E1.out
  have e2:=E2.out
  rw [e] at e1 e2
  simp at e1 e2
  subst e1 e2
  clear E1 E2 E3 e d1 d2
  go_enter Tryz.func50,Tryz.ntmps50
  go_wp2_with (first | (go_at_call 51;refine (CI.out _).mono ?_;rintro e w1 ⟨rfl,rfl⟩) | (go_at_call 86;refine (CS.out _).mono ?_;rintro e w1 ⟨rfl,m,rfl⟩))
  go_ret2
  exact ⟨rfl,(below_drewN HB.out _)⟩
set_option maxHeartbeats 2000000 in
theorem wd_any (m:Mt) (aa ab:Option Addr) (na ca nb cb:Nat) (g size:Int) (w:World) (hup:i64 m.up) (hx:∀x∈m.ad,i64 x) (hs:i64 size) (hn:m.ad.length=na) (hm:na≤1000000) (hL:Lst w aa m.ad) :
  Calls Tryz.prog 25 #[.agg (mcs m (.slice aa na ca) (.slice ab nb cb)),.int .i64 g,.int .i64 size] w fun e w'=>e=.returned (.tuple #[.int .i64 (wdI m.up m.ad g size),.bool (wdB m.up m.ad g size)])∧Below w.heap.size w w':=by
 have hbw:=(Below.refl w.heap.size w).alloc (Nat.le_refl _) (.cells (mcs m (.slice aa na ca) (.slice ab nb cb)) 26)
 have k1:=Blk.new w (mcs m (.slice aa na ca) (.slice ab nb cb)) 26
 by_cases hr:0≤g∧g < na
 case neg=>
  have e1:wdI m.up m.ad g size=0:=by unfold wdI;rw [if_neg (by rw [hn];exact hr)]
  have e2:wdB m.up m.ad g size=false:=by unfold wdB;rw [if_neg (by rw [hn];exact hr)]
  rw [e1,e2]
  have HB:=hide hbw
  obtain ⟨up,sc,de,ga,b0,b1,b2,b3,lg,ad,be⟩:=m
  simp only [mcs] at HB ⊢
  clear hbw k1 e1 e2 hup hx hs hn hm hL
  by_cases h1:g < 0
  ·go_enter Tryz.func25,Tryz.ntmps25
   go_wp2_with fail
   go_ret2
   exact ⟨rfl,HB.out⟩
  ·have h2:(na:Int)≤g:=by omega
   have h3:¬g < (na:Int):=by omega
   clear hr
   go_enter Tryz.func25,Tryz.ntmps25
   go_wp2_with fail
   go_ret2
   exact ⟨rfl,HB.out⟩
 obtain ⟨k,rfl⟩:∃k:Nat,g=(k:Int):=⟨g.toNat,by omega⟩
 have hk:k < m.ad.length:=by omega
 have e1:wdI m.up m.ad k size=unI m.up (m.ad.getD k 0) size:=by unfold wdI;rw [if_pos (by omega)];rfl
 have e2:wdB m.up m.ad k size=unB m.up (m.ad.getD k 0) size:=by unfold wdB;rw [if_pos (by omega)];rfl
 rw [e1,e2]
 have hX:=hx (m.ad.getD k 0) (by rw [List.getD_eq_getElem?_getD,List.getElem?_eq_getElem hk];exact List.getElem_mem _)
 rcases hL.below hbw with hz | ⟨p,po,rfl,hp,hc⟩
 ·rw [hz] at hk;simp at hk
 have hc0:=hc k hk
 have CU:=hide (fun w=>un_any m (some ⟨p,po,none⟩) ab na ca nb cb (m.ad.getD k 0) size w hup hX hs)
 generalize m.ad.getD k 0=X at hc0 CU ⊢
 generalize unI m.up X size=P at CU ⊢
 generalize unB m.up X size=Q at CU ⊢
 have hk1:(k:Int) < (na:Int):=by omega
 have hk2:(0:Int)≤(k:Int):=by omega
 have hk3:¬(k:Int) < 0:=by omega
 have hm':(na:Int)≤1000000:=by omega
 obtain ⟨up,sc,de,ga,b0,b1,b2,b3,lg,ad,be⟩:=m
 have HB:=hide hbw
 have HK:=hide k1
 have HC:=hide (And.intro hp hc0)
 clear hbw k1 e1 e2 hup hx hs hn hm hL hr hk hX hp hc hc0
 simp only [mcs] at HB HK HC CU ⊢
 go_enter Tryz.func25,Tryz.ntmps25
 go_wp2_with fail
 generalize w.alloc (.cells #[.int .i64 up,.int .i64 sc,.int .i64 de,.int .i64 ga,.int .i64 b0,.int .i64 b1,.int .i64 b2,.int .i64 b3,.bool lg,.slice (some ⟨p,po,none⟩) na ca,.slice ab nb cb] 26)=V at HB HK HC ⊢
 obtain ⟨x,hx⟩:∃x,w.heap.size=x:=⟨_,rfl⟩
 have HK2:Hid (Blk V x #[.int .i64 up,.int .i64 sc,.int .i64 de,.int .i64 ga,.int .i64 b0,.int .i64 b1,.int .i64 b2,.int .i64 b3,.bool lg,.slice (some ⟨p,po,none⟩) na ca,.slice ab nb cb] 26):=hx ▸ HK
 rw [hx]
 clear HK hx
 have KSS:=hide (show ∀z,Below V.heap.size V z→(fun z:World=>z.cell? ⟨x,0,none⟩=some (.int .i64 up)∧z.cell? ⟨x,1,none⟩=some (.int .i64 sc)∧z.cell? ⟨x,2,none⟩=some (.int .i64 de)∧z.cell? ⟨x,3,none⟩=some (.int .i64 ga)∧z.cell? ⟨x,4,none⟩=some (.int .i64 b0)∧z.cell? ⟨x,5,none⟩=some (.int .i64 b1)∧z.cell? ⟨x,6,none⟩=some (.int .i64 b2)∧z.cell? ⟨x,7,none⟩=some (.int .i64 b3)∧z.cell? ⟨x,8,none⟩=some (.bool lg)∧z.cell? ⟨x,9,none⟩=some (.slice (some ⟨p,po,none⟩) na ca)∧z.cell? ⟨x,10,none⟩=some (.slice ab nb cb)∧z.cell? ⟨p,po+k,none⟩=some (.int .i64 X)) z from fun z hz=>by
  have k0:=HK2.out.below hz
  exact ⟨k0.cell 0,k0.cell 1,k0.cell 2,k0.cell 3,k0.cell 4,k0.cell 5,k0.cell 6,k0.cell 7,k0.cell 8,k0.cell 9,k0.cell 10,(hz.cell (p:=⟨p,po+k,none⟩) HC.out.1).trans HC.out.2⟩)
 have HV:=hide (Below.refl V.heap.size V)
 go_region_held3 (fun z=>z.cell? ⟨x,0,none⟩=some (.int .i64 up)∧z.cell? ⟨x,1,none⟩=some (.int .i64 sc)∧z.cell? ⟨x,2,none⟩=some (.int .i64 de)∧z.cell? ⟨x,3,none⟩=some (.int .i64 ga)∧z.cell? ⟨x,4,none⟩=some (.int .i64 b0)∧z.cell? ⟨x,5,none⟩=some (.int .i64 b1)∧z.cell? ⟨x,6,none⟩=some (.int .i64 b2)∧z.cell? ⟨x,7,none⟩=some (.int .i64 b3)∧z.cell? ⟨x,8,none⟩=some (.bool lg)∧z.cell? ⟨x,9,none⟩=some (.slice (some ⟨p,po,none⟩) na ca)∧z.cell? ⟨x,10,none⟩=some (.slice ab nb cb)∧z.cell? ⟨p,po+k,none⟩=some (.int .i64 X)) (first | exact KSS.out _ (below_d HV.out (Below.refl _ _) rfl rfl rfl rfl)) ((go_at_call 50;refine (CU.out _).mono ?_;rintro e w1 ⟨rfl,hb⟩;replace HV:=hide (below_d HV.out hb rfl rfl rfl rfl);clear hb))
 all_goals
  go_wp2_with fail
  go_ret2
  exact ⟨rfl,below_t5 HB.out HV.out⟩
end Go.Proofs.YtpaadbnlhapdbaaGreatDoor
