/-
  Joined: F12Rc, M9RRd.
-/
import Derived.Deep.RegionLaw
import Derived.SizedLaws
import Derived.SliceStrings
import Derived.Test.YtpaadbnlhapdbaaGreatDoorL14
import Derived.Test.YtpaadbnlhapdbaaGreatDoorL17
import Derived.Test.YtpaadbnlhapdbaaGreatDoorL32
import Derived.Test.YtpaadbnlhapdbaaGreatDoorL34
import Derived.Test.YtpaadbnlhapdbaaGreatDoorL36
namespace Go.Proofs.YtpaadbnlhapdbaaGreatDoor.F12
open Go.RowKit Go.Deep
set_option linter.unusedVariables false
set_option linter.unusedSimpArgs false
set_option maxRecDepth 8000 in
set_option maxHeartbeats 8000000 in
theorem rcheck_any (m:Mt) (aa ab ga ca:Option Addr) (na nb ng nc ka kb kg kc:Nat) (gs:List ByteArray) (cs:List C11.Ch) (w:World) (hM:MIn w m aa na ab nb) (hng:gs.length=ng) (hnc:cs.length=nc) (hma:na≤1000000) (hmb:nb≤1000000) (hmg:ng≤1000000) (hmc:nc≤1000000) (hz:∀g∈gs,g.size≤1000000) (hG:G10.SLst w ga gs) (hC:C11.CLst w ca cs) :
  Calls Tryz.prog 20 #[.agg (fcs m (.slice aa na ka) (.slice ab nb kb) (.slice ga ng kg) (.slice ca nc kc))] w fun e w'=>e=.returned (.int .i64 (ckV m gs cs))∧Below w.heap.size w w':=by
 have hna:=hM.hna
 have hma':(na:Int)≤1000000:=by omega
 have hmg':(ng:Int)≤1000000:=by omega
 have bw:=(Below.refl w.heap.size w).alloc (Nat.le_refl _) (.cells (fcs m (.slice aa na ka) (.slice ab nb kb) (.slice ga ng kg) (.slice ca nc kc)) 30)
 have k1:=Blk.new w (fcs m (.slice aa na ka) (.slice ab nb kb) (.slice ga ng kg) (.slice ca nc kc)) 30
 have CG:=hide (Go.Proofs.YtpaadbnlhapdbaaGreatDoor.rgood_any m aa ab na ka nb kb _ ⟨hM.up,hM.hna,hM.hnb,hM.ma,hM.mb,hM.la.below bw,hM.lb.below bw,hM.xa,hM.xb⟩ hma hmb)
 have CP:=hide (fun (u:World) (hu:Below w.heap.size w u) (h:ng≤4096)=>rparts_any ga ng kg gs u hng h hz (hG.below hu))
 have CD:=hide (fun (p:Option Addr) (c:Nat) (pss:List (List Nat)) (u:World) (h2:ng≤4096) (hp:cpV gs=some pss) (hL:PLst u p pss)=>rdeep_any p ng c pss u (by rw [(cp_bd hp).1];exact hng) h2 (by rw [←hng];exact (cp_bd hp).2) hL)
 have HPL:=hide (fun (pss:List (List Nat)) (hp:cpV gs=some pss)=>show pss.length=ng by rw [(cp_bd hp).1];exact hng)
 have CC:=hide (fun (u:World) (hu:Below w.heap.size w u)=>C11.rgood_any ca cs nc kc (ng:Int) u hnc (by omega) ⟨by omega,by omega⟩ (hC.below hu))
 have HIN:=hide (fun h:goodB m=true=>good_in h)
 have E:=hide (show ckV m gs cs=if goodB m then (if ng=na then (match cpV gs with | none=>100 | some pss=>if deepB pss then 101 else if C11.gooB cs (ng:Int) then 0 else 110) else 100) else 90 by unfold ckV;rw [hna,hng] <;> rfl)
 have HNA:=hide hna
 generalize ckV m gs cs=R at E ⊢
 obtain ⟨gb,hgb⟩:∃gb,goodB m=gb:=⟨_,rfl⟩
 rw [hgb] at CG E HIN
 obtain ⟨up,sc,de,gap,b0,b1,b2,b3,lg,ad,be⟩:=m
 have HB1:=hide bw
 have HK1:=hide k1
 clear hna hng hnc hz hM hG hC bw k1 hgb
 simp only [mcs,fcs] at CG HB1 HK1 HNA HIN ⊢
 go_enter Tryz.func20,Tryz.ntmps20
 go_wp2_with fail
 refine CG.out.mono ?_
 rintro e w1 ⟨rfl,h1⟩
 have hk:=HK1.out.below h1
 have e9:=hk.cell 9
 have e11:=hk.cell 11
 have e12:=hk.cell 12
 simp at e9 e11 e12
 have xlt:=hk.lt
 have HB2:=hide (below_t5 HB1.out h1)
 have HK2:=hide hk
 clear h1 hk HB1 HK1
 cases gb with
 | false=>
  have E0:=E.out
  simp only [↓reduceIte,Bool.false_eq_true] at E0
  subst E0
  go_wp2_with fail
  go_ret
  exact ⟨rfl,HB2.out⟩
 | true=>
  by_cases hne:ng=na
  case neg=>
   have E0:=E.out
   simp only [↓reduceIte,Bool.false_eq_true,hne] at E0
   subst E0
   have hne1:((ng:Int) == (na:Int))=false:=by rw [beq_eq_false_iff_ne];omega
   have hne2:(ng:Int)≠(na:Int):=by omega
   go_wp2_with fail
   go_ret
   exact ⟨rfl,HB2.out⟩
  subst hne
  have h4:1≤ng∧ng≤4096:=by have:=(HIN.out rfl).2.2.2.1;have:=HNA.out;omega
  have CP1:=hide (CP.out w1 HB2.out h4.2)
  have hne1:((ng:Int) == (ng:Int))=true:=by simp
  go_wp2_with fail
  refine CP1.out.mono ?_
  rintro e w2 ⟨h2,h3⟩
  have hk:=HK2.out.below h2
  have f11:=hk.cell 11
  have f12:=hk.cell 12
  simp at f11 f12
  have xlt2:=hk.lt
  have HB3:=hide (below_t5 HB2.out h2)
  have HK3:=hide hk
  clear hk h2 e9 e11 e12 xlt HB2 HK2 CP CP1 CG
  rcases h3 with ⟨hcp,rfl⟩ | ⟨pss,hcp,g,rfl,hPL⟩
  ·have E0:=E.out
   simp only [hcp,↓reduceIte,Bool.false_eq_true] at E0
   subst E0
   clear hcp
   go_wp2_with fail
   go_ret
   exact ⟨rfl,HB3.out⟩
  ·have CD1:=hide (CD.out (some ⟨g,0,none⟩) ng pss w2 h4.2 hcp hPL)
   have HPL1:=hide (HPL.out pss hcp)
   have E0:=E.out
   simp only [hcp,↓reduceIte,Bool.false_eq_true] at E0
   have HE0:=hide E0
   clear hcp hPL E0 E CD HPL
   go_wp2_with fail
   refine CD1.out.mono ?_
   rintro e w3 ⟨dg,o,rfl,hko,hDI,h3⟩
   have hk:=HK3.out.below h3
   have f11:=hk.cell 11
   have f12:=hk.cell 12
   simp at f11 f12
   have xlt3:=hk.lt
   have HB4:=hide (below_t5 HB3.out h3)
   have HKO:=hide hko
   have HDI:=hide hDI
   have h42:(ng:Int)≤4096:=by omega
   clear hk h3 HB3 HK3 hko hDI CD1
   go_wp2_with fail
   go_loopw [6] (fun vi wq=>∃i:Nat,vi=.int .i64 (i:Int)∧Hid (wq=w3∧i≤ng∧∀j,j < i→dpV pss 9 j=false)) (fun vi _=>ng - (intOf vi).toNat)
   case atStart=>exact ⟨0,rfl,hide ⟨rfl,by omega,fun j hj=>by omega⟩⟩
   case round=>
    obtain ⟨i,rfl,HV⟩:=hrel
    obtain ⟨hw,hi,hall⟩:=HV.out
    replace hw:=hw.symm
    subst hw
    have hi0:(0:Int)≤(i:Int):=by omega
    have HALL:=hide hall
    clear HV hall
    by_cases hin:i < ng
    ·have hin':(i:Int) < (ng:Int):=by omega
     have oc:=HKO.out.cell i
     rw [ilA_at o i (by rw [HDI.out.len];exact hin)] at oc
     have olt:=HKO.out.lt
     have hfin:=HDI.out.fin (by omega) i hin
     obtain ⟨x,hx⟩:∃x,o.getD i 0=x:=⟨_,rfl⟩
     rw [hx] at oc hfin
     have HF:=hide hfin
     clear hx hfin
     by_cases h8:8 < x
     ·have hd:deepB pss=true:=by
       unfold deepB
       rw [List.any_eq_true]
       exact ⟨i,by rw [List.mem_range,HPL1.out];exact hin,by rw [←HF.out];simpa using h8⟩
      have E0:=HE0.out
      simp only [hd,↓reduceIte] at E0
      subst E0
      clear hd
      go_wp2_with fail
      go_ret
      exact ⟨rfl,HB4.out⟩
     ·have h8':¬8 < x:=h8
      have HA2:=hide (show ∀j,j < i+1→dpV pss 9 j=false from fun j hj=>by
       rcases Nat.lt_or_ge j i with h | h
       ·exact HALL.out j h
       ·rw [show j=i by omega,←HF.out];simpa using h8)
      clear h8
      go_wp2_with fail
      go_roundw
      case rel=>exact ⟨i+1,by go_num,hide ⟨by first | rfl | trivial,by omega,HA2.out⟩⟩
      case measure=>simp [intOf];omega
    ·have hin':¬(i:Int) < (ng:Int):=by omega
     have hd:deepB pss=false:=by
      unfold deepB
      rw [List.any_eq_false]
      intro j hj
      rw [List.mem_range,HPL1.out] at hj
      rw [HALL.out j (by omega)]
      simp
     have E0:=HE0.out
     simp only [hd,↓reduceIte,Bool.false_eq_true] at E0
     have HE1:=hide E0
     have CC1:=hide (CC.out w3 HB4.out)
     clear hd E0 HE0 CC
     go_wp2_with fail
     refine CC1.out.mono ?_
     rintro e w4 ⟨rfl,h4⟩
     have HB5:=hide (below_t5 HB4.out h4)
     clear h4 CC1
     cases hcb:C11.gooB cs (ng:Int) with
     | true=>
      have E0:=HE1.out
      simp only [hcb,↓reduceIte] at E0
      subst E0
      clear hcb
      go_wp2_with fail
      go_ret
      exact ⟨rfl,HB5.out⟩
     | false=>
      have E0:=HE1.out
      simp only [hcb,↓reduceIte,Bool.false_eq_true] at E0
      subst E0
      clear hcb
      go_wp2_with fail
      go_ret
      exact ⟨rfl,HB5.out⟩
end Go.Proofs.YtpaadbnlhapdbaaGreatDoor.F12
namespace Go.Proofs.YtpaadbnlhapdbaaGreatDoor
open Go.RowKit Go.Deep
set_option linter.unusedVariables false
set_option linter.unusedSimpArgs false
theorem fn_let (l:List Tab) (t:ByteArray):∃(s:ByteArray) (b:Bool),fnR (finV l t)=.tuple #[.string s,.bool b]∧((b=true∧finV l t=some s)∨(b=false∧finV l t=none)):=by
 cases h:finV l t with
 | none=>exact ⟨⟨#[]⟩,false,rfl,Or.inr ⟨rfl,rfl⟩⟩
 | some d=>exact ⟨d,true,rfl,Or.inl ⟨rfl,rfl⟩⟩
def advL (hx:ByteArray) (h n:Nat):List Int:=(List.range n).map (advF hx h)
def beaL (hx:ByteArray) (h n:Nat):List Int:=(List.range n).map (beaF hx h)
theorem u2_let (s:ByteArray) (k:Nat) (h:k+2≤s.size) (hm:s.size≤1073741824):∀w,Calls Tryz.prog 37 #[.string s,.int .i64 (k:Int)] w fun e w'=>e=.returned (.int .i64 ((n2 s.data.toList k:Nat):Int))∧∃n,w'=w.drewN n:=fun w=>ru2_any s k k w rfl h hm
theorem say4 (s t:ByteArray) (k:Nat) (L:List UInt8) (ht:t.size=4) (hL:t.data.toList=L):sayB s k t=((s.extract k (k+4)).toList == L):=by unfold sayB eqS;rw [ht,Lib.toList_data t,hL]
theorem blk11 {V:World} {r:Nat} (h:Blk V r zeroC 26):V.cell? ⟨r,0,none⟩=some (.int .i64 0)∧V.frozen? ⟨r,0,none⟩=false∧V.cell? ⟨r,1,none⟩=some (.int .i64 0)∧V.frozen? ⟨r,1,none⟩=false∧V.cell? ⟨r,2,none⟩=some (.int .i64 0)∧V.frozen? ⟨r,2,none⟩=false∧V.cell? ⟨r,3,none⟩=some (.int .i64 0)∧V.frozen? ⟨r,3,none⟩=false∧V.cell? ⟨r,4,none⟩=some (.int .i64 0)∧V.frozen? ⟨r,4,none⟩=false∧V.cell? ⟨r,5,none⟩=some (.int .i64 0)∧V.frozen? ⟨r,5,none⟩=false∧V.cell? ⟨r,6,none⟩=some (.int .i64 0)∧V.frozen? ⟨r,6,none⟩=false∧V.cell? ⟨r,7,none⟩=some (.int .i64 0)∧V.frozen? ⟨r,7,none⟩=false∧V.cell? ⟨r,8,none⟩=some (.bool false)∧V.frozen? ⟨r,8,none⟩=false∧V.cell? ⟨r,9,none⟩=some (.slice none 0 0)∧V.frozen? ⟨r,9,none⟩=false∧V.cell? ⟨r,10,none⟩=some (.slice none 0 0)∧V.frozen? ⟨r,10,none⟩=false∧r < V.heap.size:=⟨by simpa using h.cell 0,h.frozen 0,by simpa using h.cell 1,h.frozen 1,by simpa using h.cell 2,h.frozen 2,by simpa using h.cell 3,h.frozen 3,by simpa using h.cell 4,h.frozen 4,by simpa using h.cell 5,h.frozen 5,by simpa using h.cell 6,h.frozen 6,by simpa using h.cell 7,h.frozen 7,by simpa using h.cell 8,h.frozen 8,by simpa using h.cell 9,h.frozen 9,by simpa using h.cell 10,h.frozen 10,h.lt⟩
theorem rr_end {w V:World} {a:Act} (hk:Blk V w.heap.size zeroC 26) (hb:Below w.heap.size w V) (h2:a.tmps[2]?.getD undef=.pointer (some ⟨w.heap.size,0,none⟩)) (h3:a.tmps[3]?.getD undef=.int .i64 90) (hd:a.defers=[]) :
  bodyPost Tryz.prog Tryz.f16 (fun e w'=>e=.returned (.tuple #[zeroM,.int .i64 90])∧Below w.heap.size w w') Exit.ret a (((((((((((V.setCell ⟨w.heap.size,0,none⟩ (.int .i64 0)).setCell ⟨w.heap.size,1,none⟩ (.int .i64 0)).setCell ⟨w.heap.size,2,none⟩ (.int .i64 0)).setCell ⟨w.heap.size,3,none⟩ (.int .i64 0)).setCell ⟨w.heap.size,4,none⟩ (.int .i64 0)).setCell ⟨w.heap.size,5,none⟩ (.int .i64 0)).setCell ⟨w.heap.size,6,none⟩ (.int .i64 0)).setCell ⟨w.heap.size,7,none⟩ (.int .i64 0)).setCell ⟨w.heap.size,8,none⟩ (.bool false)).setCell ⟨w.heap.size,9,none⟩ (.slice none 0 0)).setCell ⟨w.heap.size,10,none⟩ (.slice none 0 0)):=by
 have hst:=store11 hk (.int .i64 0) (.int .i64 0) (.int .i64 0) (.int .i64 0) (.int .i64 0) (.int .i64 0) (.int .i64 0) (.int .i64 0) (.bool false) (.slice none 0 0) (.slice none 0 0)
 have hbe:=hst.2.below hb (Nat.le_refl _)
 generalize (((((((((((V.setCell ⟨w.heap.size,0,none⟩ (.int .i64 0)).setCell ⟨w.heap.size,1,none⟩ (.int .i64 0)).setCell ⟨w.heap.size,2,none⟩ (.int .i64 0)).setCell ⟨w.heap.size,3,none⟩ (.int .i64 0)).setCell ⟨w.heap.size,4,none⟩ (.int .i64 0)).setCell ⟨w.heap.size,5,none⟩ (.int .i64 0)).setCell ⟨w.heap.size,6,none⟩ (.int .i64 0)).setCell ⟨w.heap.size,7,none⟩ (.int .i64 0)).setCell ⟨w.heap.size,8,none⟩ (.bool false)).setCell ⟨w.heap.size,9,none⟩ (.slice none 0 0)).setCell ⟨w.heap.size,10,none⟩ (.slice none 0 0))=Z at hst hbe ⊢
 have q0:=hst.1.cell 0
 have q1:=hst.1.cell 1
 have q2:=hst.1.cell 2
 have q3:=hst.1.cell 3
 have q4:=hst.1.cell 4
 have q5:=hst.1.cell 5
 have q6:=hst.1.cell 6
 have q7:=hst.1.cell 7
 have q8:=hst.1.cell 8
 have q9:=hst.1.cell 9
 have q10:=hst.1.cell 10
 simp at q0 q1 q2 q3 q4 q5 q6 q7 q8 q9 q10
 exact bodyPost_ret (v:=.tuple #[zeroM,.int .i64 90]) (by simp [results,Tryz.results16,go_sem,zeroM,h2,h3,q0,q1,q2,q3,q4,q5,q6,q7,q8,q9,q10]) hd ⟨rfl,hbe⟩
theorem kv_d {V w1:World} {r m:Nat} (h:Blk V r zeroC 26) (hw:w1=V.drewN m):Blk w1 r zeroC 26:=by rw [hw];exact h.drewN m
theorem hb_d {w V w1:World} {m:Nat} (h:Below w.heap.size w V) (hw:w1=V.drewN m):Below w.heap.size w w1:=by rw [hw];exact below_drewN h m
set_option maxRecDepth 8000 in
set_option maxHeartbeats 16000000 in
theorem rrd_no (a:Option Addr) (l:List Tab) (n c:Nat) (w:World) (hn:l.length=n) (hm:n≤1073741824) (hd0:∀x∈l,x.2.size≤1073741824) (hL:TLst w a l) (hno:readV l=none) :
  Calls Tryz.prog 16 #[.slice a n c] w fun e w'=>e=.returned (.tuple #[zeroM,.int .i64 90])∧Below w.heap.size w w':=by
 obtain ⟨hd,bhd,e0,f0⟩:=fn_let l headS
 obtain ⟨hh,bhh,e1,f1⟩:=fn_let l hheaS
 obtain ⟨mx,bmx,e2,f2⟩:=fn_let l maxpS
 obtain ⟨hx,bhx,e3,f3⟩:=fn_let l hmtxS
 have hbw:=(Below.refl w.heap.size w).alloc (Nat.le_refl _) (.cells zeroC 26)
 have hkv:=Blk.new w zeroC 26
 obtain ⟨V,hV⟩:∃V,w.alloc (.cells zeroC 26)=V:=⟨_,rfl⟩
 rw [hV] at hbw hkv
 have KV:=hide hkv
 have HVV:=hide hV
 clear hkv hV
 have CF0:=hide (rfind_any a l n c headS V hn hm (hL.below hbw))
 have CF1:=hide (rfind_any a l n c hheaS V hn hm (hL.below hbw))
 have CF2:=hide (rfind_any a l n c maxpS V hn hm (hL.below hbw))
 have CF3:=hide (rfind_any a l n c hmtxS V hn hm (hL.below hbw))
 rw [e0] at CF0
 rw [e1] at CF1
 rw [e2] at CF2
 rw [e3] at CF3
 have HB:=hide hbw
 have HD:=hide hd0
 have HNO:=hide hno
 clear hbw hn hm hL e0 e1 e2 e3 hd0 hno
 rcases f0 with ⟨rfl,ghd⟩ | ⟨rfl,ghd⟩
 case inr=>
  clear ghd HD HNO
  go_enter Tryz.func16,Tryz.ntmps16
  go_wp2_with fail
  rw [HVV.out]
  refine CF0.out.mono ?_
  rintro e w1 ⟨rfl,hw⟩
  replace hw:=hw.symm
  subst hw
  go_wp2_with fail
  refine CF1.out.mono ?_
  rintro e w1 ⟨rfl,hw⟩
  replace hw:=hw.symm
  subst hw
  go_wp2_with fail
  refine CF2.out.mono ?_
  rintro e w1 ⟨rfl,hw⟩
  replace hw:=hw.symm
  subst hw
  go_wp2_with fail
  refine CF3.out.mono ?_
  rintro e w1 ⟨rfl,hw⟩
  replace hw:=hw.symm
  subst hw
  obtain ⟨z0,y0,z1,y1,z2,y2,z3,y3,z4,y4,z5,y5,z6,y6,z7,y7,z8,y8,z9,y9,z10,y10,zlt⟩:=blk11 KV.out
  go_wp2_with fail
  exact rr_end KV.out HB.out rfl rfl rfl
 rcases f1 with ⟨rfl,ghh⟩ | ⟨rfl,ghh⟩
 case inr=>
  clear ghh HD HNO
  go_enter Tryz.func16,Tryz.ntmps16
  go_wp2_with fail
  rw [HVV.out]
  refine CF0.out.mono ?_
  rintro e w1 ⟨rfl,hw⟩
  replace hw:=hw.symm
  subst hw
  go_wp2_with fail
  refine CF1.out.mono ?_
  rintro e w1 ⟨rfl,hw⟩
  replace hw:=hw.symm
  subst hw
  go_wp2_with fail
  refine CF2.out.mono ?_
  rintro e w1 ⟨rfl,hw⟩
  replace hw:=hw.symm
  subst hw
  go_wp2_with fail
  refine CF3.out.mono ?_
  rintro e w1 ⟨rfl,hw⟩
  replace hw:=hw.symm
  subst hw
  obtain ⟨z0,y0,z1,y1,z2,y2,z3,y3,z4,y4,z5,y5,z6,y6,z7,y7,z8,y8,z9,y9,z10,y10,zlt⟩:=blk11 KV.out
  go_wp2_with fail
  exact rr_end KV.out HB.out rfl rfl rfl
 rcases f2 with ⟨rfl,gmx⟩ | ⟨rfl,gmx⟩
 case inr=>
  clear gmx HD HNO
  go_enter Tryz.func16,Tryz.ntmps16
  go_wp2_with fail
  rw [HVV.out]
  refine CF0.out.mono ?_
  rintro e w1 ⟨rfl,hw⟩
  replace hw:=hw.symm
  subst hw
  go_wp2_with fail
  refine CF1.out.mono ?_
  rintro e w1 ⟨rfl,hw⟩
  replace hw:=hw.symm
  subst hw
  go_wp2_with fail
  refine CF2.out.mono ?_
  rintro e w1 ⟨rfl,hw⟩
  replace hw:=hw.symm
  subst hw
  go_wp2_with fail
  refine CF3.out.mono ?_
  rintro e w1 ⟨rfl,hw⟩
  replace hw:=hw.symm
  subst hw
  obtain ⟨z0,y0,z1,y1,z2,y2,z3,y3,z4,y4,z5,y5,z6,y6,z7,y7,z8,y8,z9,y9,z10,y10,zlt⟩:=blk11 KV.out
  go_wp2_with fail
  exact rr_end KV.out HB.out rfl rfl rfl
 rcases f3 with ⟨rfl,ghx⟩ | ⟨rfl,ghx⟩
 case inr=>
  clear ghx HD HNO
  go_enter Tryz.func16,Tryz.ntmps16
  go_wp2_with fail
  rw [HVV.out]
  refine CF0.out.mono ?_
  rintro e w1 ⟨rfl,hw⟩
  replace hw:=hw.symm
  subst hw
  go_wp2_with fail
  refine CF1.out.mono ?_
  rintro e w1 ⟨rfl,hw⟩
  replace hw:=hw.symm
  subst hw
  go_wp2_with fail
  refine CF2.out.mono ?_
  rintro e w1 ⟨rfl,hw⟩
  replace hw:=hw.symm
  subst hw
  go_wp2_with fail
  refine CF3.out.mono ?_
  rintro e w1 ⟨rfl,hw⟩
  replace hw:=hw.symm
  subst hw
  obtain ⟨z0,y0,z1,y1,z2,y2,z3,y3,z4,y4,z5,y5,z6,y6,z7,y7,z8,y8,z9,y9,z10,y10,zlt⟩:=blk11 KV.out
  go_wp2_with fail
  exact rr_end KV.out HB.out rfl rfl rfl
 by_cases zmx:mx.size < 6
 ·have zmx':(mx.size:Int) < 6:=by omega
  clear zmx HD HNO
  go_enter Tryz.func16,Tryz.ntmps16
  go_wp2_with fail
  rw [HVV.out]
  refine CF0.out.mono ?_
  rintro e w1 ⟨rfl,hw⟩
  replace hw:=hw.symm
  subst hw
  go_wp2_with fail
  refine CF1.out.mono ?_
  rintro e w1 ⟨rfl,hw⟩
  replace hw:=hw.symm
  subst hw
  go_wp2_with fail
  refine CF2.out.mono ?_
  rintro e w1 ⟨rfl,hw⟩
  replace hw:=hw.symm
  subst hw
  go_wp2_with fail
  refine CF3.out.mono ?_
  rintro e w1 ⟨rfl,hw⟩
  replace hw:=hw.symm
  subst hw
  obtain ⟨z0,y0,z1,y1,z2,y2,z3,y3,z4,y4,z5,y5,z6,y6,z7,y7,z8,y8,z9,y9,z10,y10,zlt⟩:=blk11 KV.out
  go_wp2_with fail
  exact rr_end KV.out HB.out rfl rfl rfl
 have zmx':¬(mx.size:Int) < 6:=by omega
 by_cases zhd:hd.size < 54
 ·have zhd':(hd.size:Int) < 54:=by omega
  clear zhd HD HNO
  go_enter Tryz.func16,Tryz.ntmps16
  go_wp2_with fail
  rw [HVV.out]
  refine CF0.out.mono ?_
  rintro e w1 ⟨rfl,hw⟩
  replace hw:=hw.symm
  subst hw
  go_wp2_with fail
  refine CF1.out.mono ?_
  rintro e w1 ⟨rfl,hw⟩
  replace hw:=hw.symm
  subst hw
  go_wp2_with fail
  refine CF2.out.mono ?_
  rintro e w1 ⟨rfl,hw⟩
  replace hw:=hw.symm
  subst hw
  go_wp2_with fail
  refine CF3.out.mono ?_
  rintro e w1 ⟨rfl,hw⟩
  replace hw:=hw.symm
  subst hw
  obtain ⟨z0,y0,z1,y1,z2,y2,z3,y3,z4,y4,z5,y5,z6,y6,z7,y7,z8,y8,z9,y9,z10,y10,zlt⟩:=blk11 KV.out
  go_wp2_with fail
  exact rr_end KV.out HB.out rfl rfl rfl
 have zhd':¬(hd.size:Int) < 54:=by omega
 by_cases zhh:hh.size < 36
 ·have zhh':(hh.size:Int) < 36:=by omega
  clear zhh HD HNO
  go_enter Tryz.func16,Tryz.ntmps16
  go_wp2_with fail
  rw [HVV.out]
  refine CF0.out.mono ?_
  rintro e w1 ⟨rfl,hw⟩
  replace hw:=hw.symm
  subst hw
  go_wp2_with fail
  refine CF1.out.mono ?_
  rintro e w1 ⟨rfl,hw⟩
  replace hw:=hw.symm
  subst hw
  go_wp2_with fail
  refine CF2.out.mono ?_
  rintro e w1 ⟨rfl,hw⟩
  replace hw:=hw.symm
  subst hw
  go_wp2_with fail
  refine CF3.out.mono ?_
  rintro e w1 ⟨rfl,hw⟩
  replace hw:=hw.symm
  subst hw
  obtain ⟨z0,y0,z1,y1,z2,y2,z3,y3,z4,y4,z5,y5,z6,y6,z7,y7,z8,y8,z9,y9,z10,y10,zlt⟩:=blk11 KV.out
  go_wp2_with fail
  exact rr_end KV.out HB.out rfl rfl rfl
 have zhh':¬(hh.size:Int) < 36:=by omega
 have ymx:=fin_size HD.out gmx
 have yhd:=fin_size HD.out ghd
 have yhh:=fin_size HD.out ghh
 have yhx:=fin_size HD.out ghx
 have CN:=hide (u2_let mx 4 (by omega) ymx)
 have CH:=hide (u2_let hh 34 (by omega) yhh)
 have CU:=hide (u2_let hd 18 (by omega) yhd)
 have CO:=hide (u2_let hd 50 (by omega) yhd)
 have C52:=hide (u2_let hd 52 (by omega) yhd)
 have C32:=hide (u2_let hh 32 (by omega) yhh)
 have kmx:(4:Int)≤(mx.size:Int):=by omega
 have khd:(16:Int)≤(hd.size:Int):=by omega
 have khd4:(4:Int)≤(hd.size:Int):=by omega
 have khh:(4:Int)≤(hh.size:Int):=by omega
 have lmx:(mx.size:Int)≤1073741824:=by omega
 have lhd:(hd.size:Int)≤1073741824:=by omega
 have lhh:(hh.size:Int)≤1073741824:=by omega
 have lhx:(hx.size:Int)≤1073741824:=by omega
 have ALL:Hid (allB mx hd hh hx=false):=hide (by
  cases h:allB mx hd hh hx with
  | false=>rfl
  | true=>have:=rdv_yes gmx ghd ghh ghx h;rw [HNO.out] at this;cases this)
 obtain ⟨LB,hLB⟩:∃LB:Bool,decide (4 * hV hh+2 * (nV mx - hV hh)≤hx.size)=LB:=⟨_,rfl⟩
 have EALL:Hid (allB mx hd hh hx=(mxB mx && (hdB hd && (hhB hh ((n2 mx.data.toList 4:Nat):Int) && LB)))):=hide (by
  unfold allB
  rw [show decide (6≤mx.size)=true by simp;omega,show decide (54≤hd.size)=true by simp;omega,show decide (36≤hh.size)=true by simp;omega,hLB]
  simp)
 have EMX:Hid (mxB mx=((sayB mx 0 halfS || sayB mx 0 verS) && wiB 1 4096 [((n2 mx.data.toList 4:Nat):Int)])):=hide rfl
 have EHD:Hid (hdB hd=(sayB hd 0 verS && sayB hd 12 magicS && wiB 16 16384 [((n2 hd.data.toList 18:Nat):Int)] && wiB 0 1 [((n2 hd.data.toList 50:Nat):Int)] && (((n2 hd.data.toList 52:Nat):Int) == 0))):=hide rfl
 have EHH:Hid (hhB hh ((n2 mx.data.toList 4:Nat):Int)=(sayB hh 0 verS && (((n2 hh.data.toList 32:Nat):Int) == 0) && wiB 1 ((n2 mx.data.toList 4:Nat):Int) [((n2 hh.data.toList 34:Nat):Int)])):=hide rfl
 have P1:=hide (say4 mx halfS 0 [0,0,80,0] (by decide) rfl)
 have P2:=hide (say4 mx verS 0 [0,1,0,0] (by decide) rfl)
 have P3:=hide (say4 hd verS 0 [0,1,0,0] (by decide) rfl)
 have P4:=hide (say4 hd magicS 12 [95,15,60,245] (by decide) rfl)
 have P5:=hide (say4 hh verS 0 [0,1,0,0] (by decide) rfl)
 have bN:=n2_lt mx.data.toList 4
 have bH:=n2_lt hh.data.toList 34
 have bU:=n2_lt hd.data.toList 18
 have bO:=n2_lt hd.data.toList 50
 obtain ⟨N,hN⟩:∃N,n2 mx.data.toList 4=N:=⟨_,rfl⟩
 obtain ⟨H,hH⟩:∃N,n2 hh.data.toList 34=N:=⟨_,rfl⟩
 obtain ⟨UU,hU⟩:∃N,n2 hd.data.toList 18=N:=⟨_,rfl⟩
 obtain ⟨OO,hO⟩:∃N,n2 hd.data.toList 50=N:=⟨_,rfl⟩
 obtain ⟨X52,h52⟩:∃N,n2 hd.data.toList 52=N:=⟨_,rfl⟩
 obtain ⟨X32,h32⟩:∃N,n2 hh.data.toList 32=N:=⟨_,rfl⟩
 have EL:Hid (LB=false→(hx.size:Int) < 4 * (H:Int)+2 * ((N:Int) - (H:Int))∨N < H):=hide fun h=>by
  rw [h] at hLB
  have e1:hV hh=H:=hH
  have e2:nV mx=N:=hN
  rw [e1,e2] at hLB
  simp at hLB
  omega
 rw [hN] at CN EALL EMX EHH bN
 rw [hH] at CH EHH bH
 rw [hU] at CU EHD bU
 rw [hO] at CO EHD bO
 rw [h52] at C52 EHD
 rw [h32] at C32 EHH
 clear hLB hN hH hU hO h52 h32
 have bN':(N:Int)≤65535:=by omega
 have bH':(H:Int)≤65535:=by omega
 have bU':(UU:Int)≤65535:=by omega
 have bO':(OO:Int)≤65535:=by omega
 clear zmx zhd zhh ymx yhd yhh yhx HD HNO gmx ghd ghh ghx bN bH bU bO
 cases qA:sayB mx 0 halfS
 ·cases qB:sayB mx 0 verS
  ·have jA:((mx.extract 0 4).toList == [0,0,80,0])=false:=by have h:=P1.out;rw [qA] at h;exact h.symm
   have iA:((mx.extract 0 4).toList != [0,0,80,0])=true:=by unfold bne;rw [jA];rfl
   have jB:((mx.extract 0 4).toList == [0,1,0,0])=false:=by have h:=P2.out;rw [qB] at h;exact h.symm
   have iB:((mx.extract 0 4).toList != [0,1,0,0])=true:=by unfold bne;rw [jB];rfl
   clear ALL EALL EMX EHD EHH EL P1 P2 P3 P4 P5
   go_enter Tryz.func16,Tryz.ntmps16
   go_wp2_with fail
   rw [HVV.out]
   refine CF0.out.mono ?_
   rintro e w1 ⟨rfl,hw⟩
   replace hw:=hw.symm
   subst hw
   go_wp2_with fail
   refine CF1.out.mono ?_
   rintro e w1 ⟨rfl,hw⟩
   replace hw:=hw.symm
   subst hw
   go_wp2_with fail
   refine CF2.out.mono ?_
   rintro e w1 ⟨rfl,hw⟩
   replace hw:=hw.symm
   subst hw
   go_wp2_with fail
   refine CF3.out.mono ?_
   rintro e w1 ⟨rfl,hw⟩
   replace hw:=hw.symm
   subst hw
   go_wp2_with fail
   refine (CN.out _).mono ?_
   rintro e w1 ⟨rfl,m,hw⟩
   replace KV:=hide (kv_d KV.out hw)
   replace HB:=hide (hb_d HB.out hw)
   clear hw
   go_wp2_with fail
   refine (CH.out _).mono ?_
   rintro e w1 ⟨rfl,m,hw⟩
   replace KV:=hide (kv_d KV.out hw)
   replace HB:=hide (hb_d HB.out hw)
   clear hw
   go_wp2_with fail
   refine (CU.out _).mono ?_
   rintro e w1 ⟨rfl,m,hw⟩
   replace KV:=hide (kv_d KV.out hw)
   replace HB:=hide (hb_d HB.out hw)
   clear hw
   go_wp2_with fail
   refine (CO.out _).mono ?_
   rintro e w1 ⟨rfl,m,hw⟩
   replace KV:=hide (kv_d KV.out hw)
   replace HB:=hide (hb_d HB.out hw)
   clear hw
   obtain ⟨z0,y0,z1,y1,z2,y2,z3,y3,z4,y4,z5,y5,z6,y6,z7,y7,z8,y8,z9,y9,z10,y10,zlt⟩:=blk11 KV.out
   go_wp2_with fail
   exact rr_end KV.out HB.out rfl rfl rfl
  ·have jA:((mx.extract 0 4).toList == [0,0,80,0])=false:=by have h:=P1.out;rw [qA] at h;exact h.symm
   have iA:((mx.extract 0 4).toList != [0,0,80,0])=true:=by unfold bne;rw [jA];rfl
   have jB:((mx.extract 0 4).toList == [0,1,0,0])=true:=by have h:=P2.out;rw [qB] at h;exact h.symm
   have iB:((mx.extract 0 4).toList != [0,1,0,0])=false:=by unfold bne;rw [jB];rfl
   rw [qA,qB] at EMX
   simp only [Bool.or_true,Bool.true_or,Bool.true_and] at EMX
   by_cases n1:N < 1
   ·have n1':(N:Int) < 1:=by omega
    clear ALL EALL EMX EHD EHH EL P1 P2 P3 P4 P5
    go_enter Tryz.func16,Tryz.ntmps16
    go_wp2_with fail
    rw [HVV.out]
    refine CF0.out.mono ?_
    rintro e w1 ⟨rfl,hw⟩
    replace hw:=hw.symm
    subst hw
    go_wp2_with fail
    refine CF1.out.mono ?_
    rintro e w1 ⟨rfl,hw⟩
    replace hw:=hw.symm
    subst hw
    go_wp2_with fail
    refine CF2.out.mono ?_
    rintro e w1 ⟨rfl,hw⟩
    replace hw:=hw.symm
    subst hw
    go_wp2_with fail
    refine CF3.out.mono ?_
    rintro e w1 ⟨rfl,hw⟩
    replace hw:=hw.symm
    subst hw
    go_wp2_with fail
    refine (CN.out _).mono ?_
    rintro e w1 ⟨rfl,m,hw⟩
    replace KV:=hide (kv_d KV.out hw)
    replace HB:=hide (hb_d HB.out hw)
    clear hw
    go_wp2_with fail
    refine (CH.out _).mono ?_
    rintro e w1 ⟨rfl,m,hw⟩
    replace KV:=hide (kv_d KV.out hw)
    replace HB:=hide (hb_d HB.out hw)
    clear hw
    go_wp2_with fail
    refine (CU.out _).mono ?_
    rintro e w1 ⟨rfl,m,hw⟩
    replace KV:=hide (kv_d KV.out hw)
    replace HB:=hide (hb_d HB.out hw)
    clear hw
    go_wp2_with fail
    refine (CO.out _).mono ?_
    rintro e w1 ⟨rfl,m,hw⟩
    replace KV:=hide (kv_d KV.out hw)
    replace HB:=hide (hb_d HB.out hw)
    clear hw
    obtain ⟨z0,y0,z1,y1,z2,y2,z3,y3,z4,y4,z5,y5,z6,y6,z7,y7,z8,y8,z9,y9,z10,y10,zlt⟩:=blk11 KV.out
    go_wp2_with fail
    exact rr_end KV.out HB.out rfl rfl rfl
   have n1':¬(N:Int) < 1:=by omega
   by_cases n2':4096 < N
   ·have n3:(4096:Int) < (N:Int):=by omega
    clear n2'
    clear ALL EALL EMX EHD EHH EL P1 P2 P3 P4 P5
    go_enter Tryz.func16,Tryz.ntmps16
    go_wp2_with fail
    rw [HVV.out]
    refine CF0.out.mono ?_
    rintro e w1 ⟨rfl,hw⟩
    replace hw:=hw.symm
    subst hw
    go_wp2_with fail
    refine CF1.out.mono ?_
    rintro e w1 ⟨rfl,hw⟩
    replace hw:=hw.symm
    subst hw
    go_wp2_with fail
    refine CF2.out.mono ?_
    rintro e w1 ⟨rfl,hw⟩
    replace hw:=hw.symm
    subst hw
    go_wp2_with fail
    refine CF3.out.mono ?_
    rintro e w1 ⟨rfl,hw⟩
    replace hw:=hw.symm
    subst hw
    go_wp2_with fail
    refine (CN.out _).mono ?_
    rintro e w1 ⟨rfl,m,hw⟩
    replace KV:=hide (kv_d KV.out hw)
    replace HB:=hide (hb_d HB.out hw)
    clear hw
    go_wp2_with fail
    refine (CH.out _).mono ?_
    rintro e w1 ⟨rfl,m,hw⟩
    replace KV:=hide (kv_d KV.out hw)
    replace HB:=hide (hb_d HB.out hw)
    clear hw
    go_wp2_with fail
    refine (CU.out _).mono ?_
    rintro e w1 ⟨rfl,m,hw⟩
    replace KV:=hide (kv_d KV.out hw)
    replace HB:=hide (hb_d HB.out hw)
    clear hw
    go_wp2_with fail
    refine (CO.out _).mono ?_
    rintro e w1 ⟨rfl,m,hw⟩
    replace KV:=hide (kv_d KV.out hw)
    replace HB:=hide (hb_d HB.out hw)
    clear hw
    obtain ⟨z0,y0,z1,y1,z2,y2,z3,y3,z4,y4,z5,y5,z6,y6,z7,y7,z8,y8,z9,y9,z10,y10,zlt⟩:=blk11 KV.out
    go_wp2_with fail
    exact rr_end KV.out HB.out rfl rfl rfl
   have n3:¬(4096:Int) < (N:Int):=by omega
   have tmx:mxB mx=true:=by rw [EMX.out];exact wiB_t1 (by omega) (by omega)
   rw [tmx,Bool.true_and] at EALL
   clear n1 n2' tmx EMX
   cases qC:sayB hd 0 verS
   ·have jC:((hd.extract 0 4).toList == [0,1,0,0])=false:=by have h:=P3.out;rw [qC] at h;exact h.symm
    have iC:((hd.extract 0 4).toList != [0,1,0,0])=true:=by unfold bne;rw [jC];rfl
    clear ALL EALL EHD EHH EL P1 P2 P3 P4 P5
    go_enter Tryz.func16,Tryz.ntmps16
    go_wp2_with fail
    rw [HVV.out]
    refine CF0.out.mono ?_
    rintro e w1 ⟨rfl,hw⟩
    replace hw:=hw.symm
    subst hw
    go_wp2_with fail
    refine CF1.out.mono ?_
    rintro e w1 ⟨rfl,hw⟩
    replace hw:=hw.symm
    subst hw
    go_wp2_with fail
    refine CF2.out.mono ?_
    rintro e w1 ⟨rfl,hw⟩
    replace hw:=hw.symm
    subst hw
    go_wp2_with fail
    refine CF3.out.mono ?_
    rintro e w1 ⟨rfl,hw⟩
    replace hw:=hw.symm
    subst hw
    go_wp2_with fail
    refine (CN.out _).mono ?_
    rintro e w1 ⟨rfl,m,hw⟩
    replace KV:=hide (kv_d KV.out hw)
    replace HB:=hide (hb_d HB.out hw)
    clear hw
    go_wp2_with fail
    refine (CH.out _).mono ?_
    rintro e w1 ⟨rfl,m,hw⟩
    replace KV:=hide (kv_d KV.out hw)
    replace HB:=hide (hb_d HB.out hw)
    clear hw
    go_wp2_with fail
    refine (CU.out _).mono ?_
    rintro e w1 ⟨rfl,m,hw⟩
    replace KV:=hide (kv_d KV.out hw)
    replace HB:=hide (hb_d HB.out hw)
    clear hw
    go_wp2_with fail
    refine (CO.out _).mono ?_
    rintro e w1 ⟨rfl,m,hw⟩
    replace KV:=hide (kv_d KV.out hw)
    replace HB:=hide (hb_d HB.out hw)
    clear hw
    obtain ⟨z0,y0,z1,y1,z2,y2,z3,y3,z4,y4,z5,y5,z6,y6,z7,y7,z8,y8,z9,y9,z10,y10,zlt⟩:=blk11 KV.out
    go_wp2_with fail
    exact rr_end KV.out HB.out rfl rfl rfl
   have jC:((hd.extract 0 4).toList == [0,1,0,0])=true:=by have h:=P3.out;rw [qC] at h;exact h.symm
   have iC:((hd.extract 0 4).toList != [0,1,0,0])=false:=by unfold bne;rw [jC];rfl
   cases qD:sayB hd 12 magicS
   ·have jD:((hd.extract 12 16).toList == [95,15,60,245])=false:=by have h:=P4.out;rw [qD] at h;exact h.symm
    have iD:((hd.extract 12 16).toList != [95,15,60,245])=true:=by unfold bne;rw [jD];rfl
    clear ALL EALL EHD EHH EL P1 P2 P3 P4 P5
    go_enter Tryz.func16,Tryz.ntmps16
    go_wp2_with fail
    rw [HVV.out]
    refine CF0.out.mono ?_
    rintro e w1 ⟨rfl,hw⟩
    replace hw:=hw.symm
    subst hw
    go_wp2_with fail
    refine CF1.out.mono ?_
    rintro e w1 ⟨rfl,hw⟩
    replace hw:=hw.symm
    subst hw
    go_wp2_with fail
    refine CF2.out.mono ?_
    rintro e w1 ⟨rfl,hw⟩
    replace hw:=hw.symm
    subst hw
    go_wp2_with fail
    refine CF3.out.mono ?_
    rintro e w1 ⟨rfl,hw⟩
    replace hw:=hw.symm
    subst hw
    go_wp2_with fail
    refine (CN.out _).mono ?_
    rintro e w1 ⟨rfl,m,hw⟩
    replace KV:=hide (kv_d KV.out hw)
    replace HB:=hide (hb_d HB.out hw)
    clear hw
    go_wp2_with fail
    refine (CH.out _).mono ?_
    rintro e w1 ⟨rfl,m,hw⟩
    replace KV:=hide (kv_d KV.out hw)
    replace HB:=hide (hb_d HB.out hw)
    clear hw
    go_wp2_with fail
    refine (CU.out _).mono ?_
    rintro e w1 ⟨rfl,m,hw⟩
    replace KV:=hide (kv_d KV.out hw)
    replace HB:=hide (hb_d HB.out hw)
    clear hw
    go_wp2_with fail
    refine (CO.out _).mono ?_
    rintro e w1 ⟨rfl,m,hw⟩
    replace KV:=hide (kv_d KV.out hw)
    replace HB:=hide (hb_d HB.out hw)
    clear hw
    obtain ⟨z0,y0,z1,y1,z2,y2,z3,y3,z4,y4,z5,y5,z6,y6,z7,y7,z8,y8,z9,y9,z10,y10,zlt⟩:=blk11 KV.out
    go_wp2_with fail
    exact rr_end KV.out HB.out rfl rfl rfl
   have jD:((hd.extract 12 16).toList == [95,15,60,245])=true:=by have h:=P4.out;rw [qD] at h;exact h.symm
   have iD:((hd.extract 12 16).toList != [95,15,60,245])=false:=by unfold bne;rw [jD];rfl
   by_cases v1:UU < 16
   ·have v1':(UU:Int) < 16:=by omega
    clear ALL EALL EHD EHH EL P1 P2 P3 P4 P5
    go_enter Tryz.func16,Tryz.ntmps16
    go_wp2_with fail
    rw [HVV.out]
    refine CF0.out.mono ?_
    rintro e w1 ⟨rfl,hw⟩
    replace hw:=hw.symm
    subst hw
    go_wp2_with fail
    refine CF1.out.mono ?_
    rintro e w1 ⟨rfl,hw⟩
    replace hw:=hw.symm
    subst hw
    go_wp2_with fail
    refine CF2.out.mono ?_
    rintro e w1 ⟨rfl,hw⟩
    replace hw:=hw.symm
    subst hw
    go_wp2_with fail
    refine CF3.out.mono ?_
    rintro e w1 ⟨rfl,hw⟩
    replace hw:=hw.symm
    subst hw
    go_wp2_with fail
    refine (CN.out _).mono ?_
    rintro e w1 ⟨rfl,m,hw⟩
    replace KV:=hide (kv_d KV.out hw)
    replace HB:=hide (hb_d HB.out hw)
    clear hw
    go_wp2_with fail
    refine (CH.out _).mono ?_
    rintro e w1 ⟨rfl,m,hw⟩
    replace KV:=hide (kv_d KV.out hw)
    replace HB:=hide (hb_d HB.out hw)
    clear hw
    go_wp2_with fail
    refine (CU.out _).mono ?_
    rintro e w1 ⟨rfl,m,hw⟩
    replace KV:=hide (kv_d KV.out hw)
    replace HB:=hide (hb_d HB.out hw)
    clear hw
    go_wp2_with fail
    refine (CO.out _).mono ?_
    rintro e w1 ⟨rfl,m,hw⟩
    replace KV:=hide (kv_d KV.out hw)
    replace HB:=hide (hb_d HB.out hw)
    clear hw
    obtain ⟨z0,y0,z1,y1,z2,y2,z3,y3,z4,y4,z5,y5,z6,y6,z7,y7,z8,y8,z9,y9,z10,y10,zlt⟩:=blk11 KV.out
    go_wp2_with fail
    exact rr_end KV.out HB.out rfl rfl rfl
   have v1':¬(UU:Int) < 16:=by omega
   by_cases v2:16384 < UU
   ·have v2':(16384:Int) < (UU:Int):=by omega
    clear v2
    clear ALL EALL EHD EHH EL P1 P2 P3 P4 P5
    go_enter Tryz.func16,Tryz.ntmps16
    go_wp2_with fail
    rw [HVV.out]
    refine CF0.out.mono ?_
    rintro e w1 ⟨rfl,hw⟩
    replace hw:=hw.symm
    subst hw
    go_wp2_with fail
    refine CF1.out.mono ?_
    rintro e w1 ⟨rfl,hw⟩
    replace hw:=hw.symm
    subst hw
    go_wp2_with fail
    refine CF2.out.mono ?_
    rintro e w1 ⟨rfl,hw⟩
    replace hw:=hw.symm
    subst hw
    go_wp2_with fail
    refine CF3.out.mono ?_
    rintro e w1 ⟨rfl,hw⟩
    replace hw:=hw.symm
    subst hw
    go_wp2_with fail
    refine (CN.out _).mono ?_
    rintro e w1 ⟨rfl,m,hw⟩
    replace KV:=hide (kv_d KV.out hw)
    replace HB:=hide (hb_d HB.out hw)
    clear hw
    go_wp2_with fail
    refine (CH.out _).mono ?_
    rintro e w1 ⟨rfl,m,hw⟩
    replace KV:=hide (kv_d KV.out hw)
    replace HB:=hide (hb_d HB.out hw)
    clear hw
    go_wp2_with fail
    refine (CU.out _).mono ?_
    rintro e w1 ⟨rfl,m,hw⟩
    replace KV:=hide (kv_d KV.out hw)
    replace HB:=hide (hb_d HB.out hw)
    clear hw
    go_wp2_with fail
    refine (CO.out _).mono ?_
    rintro e w1 ⟨rfl,m,hw⟩
    replace KV:=hide (kv_d KV.out hw)
    replace HB:=hide (hb_d HB.out hw)
    clear hw
    obtain ⟨z0,y0,z1,y1,z2,y2,z3,y3,z4,y4,z5,y5,z6,y6,z7,y7,z8,y8,z9,y9,z10,y10,zlt⟩:=blk11 KV.out
    go_wp2_with fail
    exact rr_end KV.out HB.out rfl rfl rfl
   have v2':¬(16384:Int) < (UU:Int):=by omega
   by_cases v3:1 < OO
   ·have v3':(1:Int) < (OO:Int):=by omega
    clear ALL EALL EHD EHH EL P1 P2 P3 P4 P5
    go_enter Tryz.func16,Tryz.ntmps16
    go_wp2_with fail
    rw [HVV.out]
    refine CF0.out.mono ?_
    rintro e w1 ⟨rfl,hw⟩
    replace hw:=hw.symm
    subst hw
    go_wp2_with fail
    refine CF1.out.mono ?_
    rintro e w1 ⟨rfl,hw⟩
    replace hw:=hw.symm
    subst hw
    go_wp2_with fail
    refine CF2.out.mono ?_
    rintro e w1 ⟨rfl,hw⟩
    replace hw:=hw.symm
    subst hw
    go_wp2_with fail
    refine CF3.out.mono ?_
    rintro e w1 ⟨rfl,hw⟩
    replace hw:=hw.symm
    subst hw
    go_wp2_with fail
    refine (CN.out _).mono ?_
    rintro e w1 ⟨rfl,m,hw⟩
    replace KV:=hide (kv_d KV.out hw)
    replace HB:=hide (hb_d HB.out hw)
    clear hw
    go_wp2_with fail
    refine (CH.out _).mono ?_
    rintro e w1 ⟨rfl,m,hw⟩
    replace KV:=hide (kv_d KV.out hw)
    replace HB:=hide (hb_d HB.out hw)
    clear hw
    go_wp2_with fail
    refine (CU.out _).mono ?_
    rintro e w1 ⟨rfl,m,hw⟩
    replace KV:=hide (kv_d KV.out hw)
    replace HB:=hide (hb_d HB.out hw)
    clear hw
    go_wp2_with fail
    refine (CO.out _).mono ?_
    rintro e w1 ⟨rfl,m,hw⟩
    replace KV:=hide (kv_d KV.out hw)
    replace HB:=hide (hb_d HB.out hw)
    clear hw
    obtain ⟨z0,y0,z1,y1,z2,y2,z3,y3,z4,y4,z5,y5,z6,y6,z7,y7,z8,y8,z9,y9,z10,y10,zlt⟩:=blk11 KV.out
    go_wp2_with fail
    exact rr_end KV.out HB.out rfl rfl rfl
   have v3':¬(1:Int) < (OO:Int):=by omega
   by_cases v4:X52=0
   case neg=>
    have v4':((X52:Int) == 0)=false:=by simp;omega
    have v4b:((X52:Int) != 0)=true:=by simp;omega
    have v4c:¬(X52:Int)=0:=by omega
    clear ALL EALL EHD EHH EL P1 P2 P3 P4 P5
    go_enter Tryz.func16,Tryz.ntmps16
    go_wp2_with fail
    rw [HVV.out]
    refine CF0.out.mono ?_
    rintro e w1 ⟨rfl,hw⟩
    replace hw:=hw.symm
    subst hw
    go_wp2_with fail
    refine CF1.out.mono ?_
    rintro e w1 ⟨rfl,hw⟩
    replace hw:=hw.symm
    subst hw
    go_wp2_with fail
    refine CF2.out.mono ?_
    rintro e w1 ⟨rfl,hw⟩
    replace hw:=hw.symm
    subst hw
    go_wp2_with fail
    refine CF3.out.mono ?_
    rintro e w1 ⟨rfl,hw⟩
    replace hw:=hw.symm
    subst hw
    go_wp2_with fail
    refine (CN.out _).mono ?_
    rintro e w1 ⟨rfl,m,hw⟩
    replace KV:=hide (kv_d KV.out hw)
    replace HB:=hide (hb_d HB.out hw)
    clear hw
    go_wp2_with fail
    refine (CH.out _).mono ?_
    rintro e w1 ⟨rfl,m,hw⟩
    replace KV:=hide (kv_d KV.out hw)
    replace HB:=hide (hb_d HB.out hw)
    clear hw
    go_wp2_with fail
    refine (CU.out _).mono ?_
    rintro e w1 ⟨rfl,m,hw⟩
    replace KV:=hide (kv_d KV.out hw)
    replace HB:=hide (hb_d HB.out hw)
    clear hw
    go_wp2_with fail
    refine (CO.out _).mono ?_
    rintro e w1 ⟨rfl,m,hw⟩
    replace KV:=hide (kv_d KV.out hw)
    replace HB:=hide (hb_d HB.out hw)
    clear hw
    obtain ⟨z0,y0,z1,y1,z2,y2,z3,y3,z4,y4,z5,y5,z6,y6,z7,y7,z8,y8,z9,y9,z10,y10,zlt⟩:=blk11 KV.out
    go_wp2_with fail
    clear z0 y0 z1 y1 z2 y2 z3 y3 z4 y4 z5 y5 z6 y6 z7 y7 z8 y8 z9 y9 z10 y10 zlt
    refine (C52.out _).mono ?_
    rintro e w1 ⟨rfl,m,hw⟩
    replace KV:=hide (kv_d KV.out hw)
    replace HB:=hide (hb_d HB.out hw)
    clear hw
    obtain ⟨z0,y0,z1,y1,z2,y2,z3,y3,z4,y4,z5,y5,z6,y6,z7,y7,z8,y8,z9,y9,z10,y10,zlt⟩:=blk11 KV.out
    go_wp2_with fail
    exact rr_end KV.out HB.out rfl rfl rfl
   subst v4
   have thd:hdB hd=true:=by rw [EHD.out,qC,qD,wiB_t1 (show (16:Int)≤(UU:Int) by omega) (show (UU:Int)≤16384 by omega),wiB_t1 (show (0:Int)≤(OO:Int) by omega) (show (OO:Int)≤1 by omega)];rfl
   rw [thd,Bool.true_and] at EALL
   clear v1 v2 v3 thd EHD
   cases qE:sayB hh 0 verS
   ·have jE:((hh.extract 0 4).toList == [0,1,0,0])=false:=by have h:=P5.out;rw [qE] at h;exact h.symm
    have iE:((hh.extract 0 4).toList != [0,1,0,0])=true:=by unfold bne;rw [jE];rfl
    clear ALL EALL EHH EL P1 P2 P3 P4 P5
    go_enter Tryz.func16,Tryz.ntmps16
    go_wp2_with fail
    rw [HVV.out]
    refine CF0.out.mono ?_
    rintro e w1 ⟨rfl,hw⟩
    replace hw:=hw.symm
    subst hw
    go_wp2_with fail
    refine CF1.out.mono ?_
    rintro e w1 ⟨rfl,hw⟩
    replace hw:=hw.symm
    subst hw
    go_wp2_with fail
    refine CF2.out.mono ?_
    rintro e w1 ⟨rfl,hw⟩
    replace hw:=hw.symm
    subst hw
    go_wp2_with fail
    refine CF3.out.mono ?_
    rintro e w1 ⟨rfl,hw⟩
    replace hw:=hw.symm
    subst hw
    go_wp2_with fail
    refine (CN.out _).mono ?_
    rintro e w1 ⟨rfl,m,hw⟩
    replace KV:=hide (kv_d KV.out hw)
    replace HB:=hide (hb_d HB.out hw)
    clear hw
    go_wp2_with fail
    refine (CH.out _).mono ?_
    rintro e w1 ⟨rfl,m,hw⟩
    replace KV:=hide (kv_d KV.out hw)
    replace HB:=hide (hb_d HB.out hw)
    clear hw
    go_wp2_with fail
    refine (CU.out _).mono ?_
    rintro e w1 ⟨rfl,m,hw⟩
    replace KV:=hide (kv_d KV.out hw)
    replace HB:=hide (hb_d HB.out hw)
    clear hw
    go_wp2_with fail
    refine (CO.out _).mono ?_
    rintro e w1 ⟨rfl,m,hw⟩
    replace KV:=hide (kv_d KV.out hw)
    replace HB:=hide (hb_d HB.out hw)
    clear hw
    obtain ⟨z0,y0,z1,y1,z2,y2,z3,y3,z4,y4,z5,y5,z6,y6,z7,y7,z8,y8,z9,y9,z10,y10,zlt⟩:=blk11 KV.out
    go_wp2_with fail
    clear z0 y0 z1 y1 z2 y2 z3 y3 z4 y4 z5 y5 z6 y6 z7 y7 z8 y8 z9 y9 z10 y10 zlt
    refine (C52.out _).mono ?_
    rintro e w1 ⟨rfl,m,hw⟩
    replace KV:=hide (kv_d KV.out hw)
    replace HB:=hide (hb_d HB.out hw)
    clear hw
    obtain ⟨z0,y0,z1,y1,z2,y2,z3,y3,z4,y4,z5,y5,z6,y6,z7,y7,z8,y8,z9,y9,z10,y10,zlt⟩:=blk11 KV.out
    go_wp2_with fail
    exact rr_end KV.out HB.out rfl rfl rfl
   have jE:((hh.extract 0 4).toList == [0,1,0,0])=true:=by have h:=P5.out;rw [qE] at h;exact h.symm
   have iE:((hh.extract 0 4).toList != [0,1,0,0])=false:=by unfold bne;rw [jE];rfl
   by_cases y4:X32=0
   case neg=>
    have y4':((X32:Int) == 0)=false:=by simp;omega
    have y4b:((X32:Int) != 0)=true:=by simp;omega
    have y4c:¬(X32:Int)=0:=by omega
    clear ALL EALL EHH EL P1 P2 P3 P4 P5
    go_enter Tryz.func16,Tryz.ntmps16
    go_wp2_with fail
    rw [HVV.out]
    refine CF0.out.mono ?_
    rintro e w1 ⟨rfl,hw⟩
    replace hw:=hw.symm
    subst hw
    go_wp2_with fail
    refine CF1.out.mono ?_
    rintro e w1 ⟨rfl,hw⟩
    replace hw:=hw.symm
    subst hw
    go_wp2_with fail
    refine CF2.out.mono ?_
    rintro e w1 ⟨rfl,hw⟩
    replace hw:=hw.symm
    subst hw
    go_wp2_with fail
    refine CF3.out.mono ?_
    rintro e w1 ⟨rfl,hw⟩
    replace hw:=hw.symm
    subst hw
    go_wp2_with fail
    refine (CN.out _).mono ?_
    rintro e w1 ⟨rfl,m,hw⟩
    replace KV:=hide (kv_d KV.out hw)
    replace HB:=hide (hb_d HB.out hw)
    clear hw
    go_wp2_with fail
    refine (CH.out _).mono ?_
    rintro e w1 ⟨rfl,m,hw⟩
    replace KV:=hide (kv_d KV.out hw)
    replace HB:=hide (hb_d HB.out hw)
    clear hw
    go_wp2_with fail
    refine (CU.out _).mono ?_
    rintro e w1 ⟨rfl,m,hw⟩
    replace KV:=hide (kv_d KV.out hw)
    replace HB:=hide (hb_d HB.out hw)
    clear hw
    go_wp2_with fail
    refine (CO.out _).mono ?_
    rintro e w1 ⟨rfl,m,hw⟩
    replace KV:=hide (kv_d KV.out hw)
    replace HB:=hide (hb_d HB.out hw)
    clear hw
    obtain ⟨z0,y0,z1,y1,z2,y2,z3,y3,z4,y4,z5,y5,z6,y6,z7,y7,z8,y8,z9,y9,z10,y10,zlt⟩:=blk11 KV.out
    go_wp2_with fail
    clear z0 y0 z1 y1 z2 y2 z3 y3 z4 y4 z5 y5 z6 y6 z7 y7 z8 y8 z9 y9 z10 y10 zlt
    refine (C52.out _).mono ?_
    rintro e w1 ⟨rfl,m,hw⟩
    replace KV:=hide (kv_d KV.out hw)
    replace HB:=hide (hb_d HB.out hw)
    clear hw
    obtain ⟨z0,y0,z1,y1,z2,y2,z3,y3,z4,y4,z5,y5,z6,y6,z7,y7,z8,y8,z9,y9,z10,y10,zlt⟩:=blk11 KV.out
    go_wp2_with fail
    clear z0 y0 z1 y1 z2 y2 z3 y3 z4 y4 z5 y5 z6 y6 z7 y7 z8 y8 z9 y9 z10 y10 zlt
    refine (C32.out _).mono ?_
    rintro e w1 ⟨rfl,m,hw⟩
    replace KV:=hide (kv_d KV.out hw)
    replace HB:=hide (hb_d HB.out hw)
    clear hw
    obtain ⟨z0,y0,z1,y1,z2,y2,z3,y3,z4,y4,z5,y5,z6,y6,z7,y7,z8,y8,z9,y9,z10,y10,zlt⟩:=blk11 KV.out
    go_wp2_with fail
    exact rr_end KV.out HB.out rfl rfl rfl
   subst y4
   by_cases h1:H < 1
   ·have h1':(H:Int) < 1:=by omega
    clear ALL EALL EHH EL P1 P2 P3 P4 P5
    go_enter Tryz.func16,Tryz.ntmps16
    go_wp2_with fail
    rw [HVV.out]
    refine CF0.out.mono ?_
    rintro e w1 ⟨rfl,hw⟩
    replace hw:=hw.symm
    subst hw
    go_wp2_with fail
    refine CF1.out.mono ?_
    rintro e w1 ⟨rfl,hw⟩
    replace hw:=hw.symm
    subst hw
    go_wp2_with fail
    refine CF2.out.mono ?_
    rintro e w1 ⟨rfl,hw⟩
    replace hw:=hw.symm
    subst hw
    go_wp2_with fail
    refine CF3.out.mono ?_
    rintro e w1 ⟨rfl,hw⟩
    replace hw:=hw.symm
    subst hw
    go_wp2_with fail
    refine (CN.out _).mono ?_
    rintro e w1 ⟨rfl,m,hw⟩
    replace KV:=hide (kv_d KV.out hw)
    replace HB:=hide (hb_d HB.out hw)
    clear hw
    go_wp2_with fail
    refine (CH.out _).mono ?_
    rintro e w1 ⟨rfl,m,hw⟩
    replace KV:=hide (kv_d KV.out hw)
    replace HB:=hide (hb_d HB.out hw)
    clear hw
    go_wp2_with fail
    refine (CU.out _).mono ?_
    rintro e w1 ⟨rfl,m,hw⟩
    replace KV:=hide (kv_d KV.out hw)
    replace HB:=hide (hb_d HB.out hw)
    clear hw
    go_wp2_with fail
    refine (CO.out _).mono ?_
    rintro e w1 ⟨rfl,m,hw⟩
    replace KV:=hide (kv_d KV.out hw)
    replace HB:=hide (hb_d HB.out hw)
    clear hw
    obtain ⟨z0,y0,z1,y1,z2,y2,z3,y3,z4,y4,z5,y5,z6,y6,z7,y7,z8,y8,z9,y9,z10,y10,zlt⟩:=blk11 KV.out
    go_wp2_with fail
    clear z0 y0 z1 y1 z2 y2 z3 y3 z4 y4 z5 y5 z6 y6 z7 y7 z8 y8 z9 y9 z10 y10 zlt
    refine (C52.out _).mono ?_
    rintro e w1 ⟨rfl,m,hw⟩
    replace KV:=hide (kv_d KV.out hw)
    replace HB:=hide (hb_d HB.out hw)
    clear hw
    obtain ⟨z0,y0,z1,y1,z2,y2,z3,y3,z4,y4,z5,y5,z6,y6,z7,y7,z8,y8,z9,y9,z10,y10,zlt⟩:=blk11 KV.out
    go_wp2_with fail
    clear z0 y0 z1 y1 z2 y2 z3 y3 z4 y4 z5 y5 z6 y6 z7 y7 z8 y8 z9 y9 z10 y10 zlt
    refine (C32.out _).mono ?_
    rintro e w1 ⟨rfl,m,hw⟩
    replace KV:=hide (kv_d KV.out hw)
    replace HB:=hide (hb_d HB.out hw)
    clear hw
    obtain ⟨z0,y0,z1,y1,z2,y2,z3,y3,z4,y4,z5,y5,z6,y6,z7,y7,z8,y8,z9,y9,z10,y10,zlt⟩:=blk11 KV.out
    go_wp2_with fail
    exact rr_end KV.out HB.out rfl rfl rfl
   have h1':¬(H:Int) < 1:=by omega
   by_cases h2:N < H
   ·have h2':(N:Int) < (H:Int):=by omega
    clear ALL EALL EHH EL P1 P2 P3 P4 P5
    go_enter Tryz.func16,Tryz.ntmps16
    go_wp2_with fail
    rw [HVV.out]
    refine CF0.out.mono ?_
    rintro e w1 ⟨rfl,hw⟩
    replace hw:=hw.symm
    subst hw
    go_wp2_with fail
    refine CF1.out.mono ?_
    rintro e w1 ⟨rfl,hw⟩
    replace hw:=hw.symm
    subst hw
    go_wp2_with fail
    refine CF2.out.mono ?_
    rintro e w1 ⟨rfl,hw⟩
    replace hw:=hw.symm
    subst hw
    go_wp2_with fail
    refine CF3.out.mono ?_
    rintro e w1 ⟨rfl,hw⟩
    replace hw:=hw.symm
    subst hw
    go_wp2_with fail
    refine (CN.out _).mono ?_
    rintro e w1 ⟨rfl,m,hw⟩
    replace KV:=hide (kv_d KV.out hw)
    replace HB:=hide (hb_d HB.out hw)
    clear hw
    go_wp2_with fail
    refine (CH.out _).mono ?_
    rintro e w1 ⟨rfl,m,hw⟩
    replace KV:=hide (kv_d KV.out hw)
    replace HB:=hide (hb_d HB.out hw)
    clear hw
    go_wp2_with fail
    refine (CU.out _).mono ?_
    rintro e w1 ⟨rfl,m,hw⟩
    replace KV:=hide (kv_d KV.out hw)
    replace HB:=hide (hb_d HB.out hw)
    clear hw
    go_wp2_with fail
    refine (CO.out _).mono ?_
    rintro e w1 ⟨rfl,m,hw⟩
    replace KV:=hide (kv_d KV.out hw)
    replace HB:=hide (hb_d HB.out hw)
    clear hw
    obtain ⟨z0,y0,z1,y1,z2,y2,z3,y3,z4,y4,z5,y5,z6,y6,z7,y7,z8,y8,z9,y9,z10,y10,zlt⟩:=blk11 KV.out
    go_wp2_with fail
    clear z0 y0 z1 y1 z2 y2 z3 y3 z4 y4 z5 y5 z6 y6 z7 y7 z8 y8 z9 y9 z10 y10 zlt
    refine (C52.out _).mono ?_
    rintro e w1 ⟨rfl,m,hw⟩
    replace KV:=hide (kv_d KV.out hw)
    replace HB:=hide (hb_d HB.out hw)
    clear hw
    obtain ⟨z0,y0,z1,y1,z2,y2,z3,y3,z4,y4,z5,y5,z6,y6,z7,y7,z8,y8,z9,y9,z10,y10,zlt⟩:=blk11 KV.out
    go_wp2_with fail
    clear z0 y0 z1 y1 z2 y2 z3 y3 z4 y4 z5 y5 z6 y6 z7 y7 z8 y8 z9 y9 z10 y10 zlt
    refine (C32.out _).mono ?_
    rintro e w1 ⟨rfl,m,hw⟩
    replace KV:=hide (kv_d KV.out hw)
    replace HB:=hide (hb_d HB.out hw)
    clear hw
    obtain ⟨z0,y0,z1,y1,z2,y2,z3,y3,z4,y4,z5,y5,z6,y6,z7,y7,z8,y8,z9,y9,z10,y10,zlt⟩:=blk11 KV.out
    go_wp2_with fail
    exact rr_end KV.out HB.out rfl rfl rfl
   have h2':¬(N:Int) < (H:Int):=by omega
   have h3:(hx.size:Int) < 4 * (H:Int)+2 * ((N:Int) - (H:Int)):=by
    have e:=EALL.out
    rw [ALL.out,EHH.out,qE,wiB_t1 (show (1:Int)≤(H:Int) by omega) (show (H:Int)≤(N:Int) by omega)] at e
    have e2:LB=false:=by simpa using e.symm
    have:=EL.out e2
    omega
   clear h1 h2
   clear ALL EALL EHH EL P1 P2 P3 P4 P5
   go_enter Tryz.func16,Tryz.ntmps16
   go_wp2_with fail
   rw [HVV.out]
   refine CF0.out.mono ?_
   rintro e w1 ⟨rfl,hw⟩
   replace hw:=hw.symm
   subst hw
   go_wp2_with fail
   refine CF1.out.mono ?_
   rintro e w1 ⟨rfl,hw⟩
   replace hw:=hw.symm
   subst hw
   go_wp2_with fail
   refine CF2.out.mono ?_
   rintro e w1 ⟨rfl,hw⟩
   replace hw:=hw.symm
   subst hw
   go_wp2_with fail
   refine CF3.out.mono ?_
   rintro e w1 ⟨rfl,hw⟩
   replace hw:=hw.symm
   subst hw
   go_wp2_with fail
   refine (CN.out _).mono ?_
   rintro e w1 ⟨rfl,m,hw⟩
   replace KV:=hide (kv_d KV.out hw)
   replace HB:=hide (hb_d HB.out hw)
   clear hw
   go_wp2_with fail
   refine (CH.out _).mono ?_
   rintro e w1 ⟨rfl,m,hw⟩
   replace KV:=hide (kv_d KV.out hw)
   replace HB:=hide (hb_d HB.out hw)
   clear hw
   go_wp2_with fail
   refine (CU.out _).mono ?_
   rintro e w1 ⟨rfl,m,hw⟩
   replace KV:=hide (kv_d KV.out hw)
   replace HB:=hide (hb_d HB.out hw)
   clear hw
   go_wp2_with fail
   refine (CO.out _).mono ?_
   rintro e w1 ⟨rfl,m,hw⟩
   replace KV:=hide (kv_d KV.out hw)
   replace HB:=hide (hb_d HB.out hw)
   clear hw
   obtain ⟨z0,y0,z1,y1,z2,y2,z3,y3,z4,y4,z5,y5,z6,y6,z7,y7,z8,y8,z9,y9,z10,y10,zlt⟩:=blk11 KV.out
   go_wp2_with fail
   clear z0 y0 z1 y1 z2 y2 z3 y3 z4 y4 z5 y5 z6 y6 z7 y7 z8 y8 z9 y9 z10 y10 zlt
   refine (C52.out _).mono ?_
   rintro e w1 ⟨rfl,m,hw⟩
   replace KV:=hide (kv_d KV.out hw)
   replace HB:=hide (hb_d HB.out hw)
   clear hw
   obtain ⟨z0,y0,z1,y1,z2,y2,z3,y3,z4,y4,z5,y5,z6,y6,z7,y7,z8,y8,z9,y9,z10,y10,zlt⟩:=blk11 KV.out
   go_wp2_with fail
   clear z0 y0 z1 y1 z2 y2 z3 y3 z4 y4 z5 y5 z6 y6 z7 y7 z8 y8 z9 y9 z10 y10 zlt
   refine (C32.out _).mono ?_
   rintro e w1 ⟨rfl,m,hw⟩
   replace KV:=hide (kv_d KV.out hw)
   replace HB:=hide (hb_d HB.out hw)
   clear hw
   obtain ⟨z0,y0,z1,y1,z2,y2,z3,y3,z4,y4,z5,y5,z6,y6,z7,y7,z8,y8,z9,y9,z10,y10,zlt⟩:=blk11 KV.out
   go_wp2_with fail
   exact rr_end KV.out HB.out rfl rfl rfl
 ·have jA:((mx.extract 0 4).toList == [0,0,80,0])=true:=by have h:=P1.out;rw [qA] at h;exact h.symm
  have iA:((mx.extract 0 4).toList != [0,0,80,0])=false:=by unfold bne;rw [jA];rfl
  rw [qA] at EMX
  simp only [Bool.or_true,Bool.true_or,Bool.true_and] at EMX
  by_cases n1:N < 1
  ·have n1':(N:Int) < 1:=by omega
   clear ALL EALL EMX EHD EHH EL P1 P2 P3 P4 P5
   go_enter Tryz.func16,Tryz.ntmps16
   go_wp2_with fail
   rw [HVV.out]
   refine CF0.out.mono ?_
   rintro e w1 ⟨rfl,hw⟩
   replace hw:=hw.symm
   subst hw
   go_wp2_with fail
   refine CF1.out.mono ?_
   rintro e w1 ⟨rfl,hw⟩
   replace hw:=hw.symm
   subst hw
   go_wp2_with fail
   refine CF2.out.mono ?_
   rintro e w1 ⟨rfl,hw⟩
   replace hw:=hw.symm
   subst hw
   go_wp2_with fail
   refine CF3.out.mono ?_
   rintro e w1 ⟨rfl,hw⟩
   replace hw:=hw.symm
   subst hw
   go_wp2_with fail
   refine (CN.out _).mono ?_
   rintro e w1 ⟨rfl,m,hw⟩
   replace KV:=hide (kv_d KV.out hw)
   replace HB:=hide (hb_d HB.out hw)
   clear hw
   go_wp2_with fail
   refine (CH.out _).mono ?_
   rintro e w1 ⟨rfl,m,hw⟩
   replace KV:=hide (kv_d KV.out hw)
   replace HB:=hide (hb_d HB.out hw)
   clear hw
   go_wp2_with fail
   refine (CU.out _).mono ?_
   rintro e w1 ⟨rfl,m,hw⟩
   replace KV:=hide (kv_d KV.out hw)
   replace HB:=hide (hb_d HB.out hw)
   clear hw
   go_wp2_with fail
   refine (CO.out _).mono ?_
   rintro e w1 ⟨rfl,m,hw⟩
   replace KV:=hide (kv_d KV.out hw)
   replace HB:=hide (hb_d HB.out hw)
   clear hw
   obtain ⟨z0,y0,z1,y1,z2,y2,z3,y3,z4,y4,z5,y5,z6,y6,z7,y7,z8,y8,z9,y9,z10,y10,zlt⟩:=blk11 KV.out
   go_wp2_with fail
   exact rr_end KV.out HB.out rfl rfl rfl
  have n1':¬(N:Int) < 1:=by omega
  by_cases n2':4096 < N
  ·have n3:(4096:Int) < (N:Int):=by omega
   clear n2'
   clear ALL EALL EMX EHD EHH EL P1 P2 P3 P4 P5
   go_enter Tryz.func16,Tryz.ntmps16
   go_wp2_with fail
   rw [HVV.out]
   refine CF0.out.mono ?_
   rintro e w1 ⟨rfl,hw⟩
   replace hw:=hw.symm
   subst hw
   go_wp2_with fail
   refine CF1.out.mono ?_
   rintro e w1 ⟨rfl,hw⟩
   replace hw:=hw.symm
   subst hw
   go_wp2_with fail
   refine CF2.out.mono ?_
   rintro e w1 ⟨rfl,hw⟩
   replace hw:=hw.symm
   subst hw
   go_wp2_with fail
   refine CF3.out.mono ?_
   rintro e w1 ⟨rfl,hw⟩
   replace hw:=hw.symm
   subst hw
   go_wp2_with fail
   refine (CN.out _).mono ?_
   rintro e w1 ⟨rfl,m,hw⟩
   replace KV:=hide (kv_d KV.out hw)
   replace HB:=hide (hb_d HB.out hw)
   clear hw
   go_wp2_with fail
   refine (CH.out _).mono ?_
   rintro e w1 ⟨rfl,m,hw⟩
   replace KV:=hide (kv_d KV.out hw)
   replace HB:=hide (hb_d HB.out hw)
   clear hw
   go_wp2_with fail
   refine (CU.out _).mono ?_
   rintro e w1 ⟨rfl,m,hw⟩
   replace KV:=hide (kv_d KV.out hw)
   replace HB:=hide (hb_d HB.out hw)
   clear hw
   go_wp2_with fail
   refine (CO.out _).mono ?_
   rintro e w1 ⟨rfl,m,hw⟩
   replace KV:=hide (kv_d KV.out hw)
   replace HB:=hide (hb_d HB.out hw)
   clear hw
   obtain ⟨z0,y0,z1,y1,z2,y2,z3,y3,z4,y4,z5,y5,z6,y6,z7,y7,z8,y8,z9,y9,z10,y10,zlt⟩:=blk11 KV.out
   go_wp2_with fail
   exact rr_end KV.out HB.out rfl rfl rfl
  have n3:¬(4096:Int) < (N:Int):=by omega
  have tmx:mxB mx=true:=by rw [EMX.out];exact wiB_t1 (by omega) (by omega)
  rw [tmx,Bool.true_and] at EALL
  clear n1 n2' tmx EMX
  cases qC:sayB hd 0 verS
  ·have jC:((hd.extract 0 4).toList == [0,1,0,0])=false:=by have h:=P3.out;rw [qC] at h;exact h.symm
   have iC:((hd.extract 0 4).toList != [0,1,0,0])=true:=by unfold bne;rw [jC];rfl
   clear ALL EALL EHD EHH EL P1 P2 P3 P4 P5
   go_enter Tryz.func16,Tryz.ntmps16
   go_wp2_with fail
   rw [HVV.out]
   refine CF0.out.mono ?_
   rintro e w1 ⟨rfl,hw⟩
   replace hw:=hw.symm
   subst hw
   go_wp2_with fail
   refine CF1.out.mono ?_
   rintro e w1 ⟨rfl,hw⟩
   replace hw:=hw.symm
   subst hw
   go_wp2_with fail
   refine CF2.out.mono ?_
   rintro e w1 ⟨rfl,hw⟩
   replace hw:=hw.symm
   subst hw
   go_wp2_with fail
   refine CF3.out.mono ?_
   rintro e w1 ⟨rfl,hw⟩
   replace hw:=hw.symm
   subst hw
   go_wp2_with fail
   refine (CN.out _).mono ?_
   rintro e w1 ⟨rfl,m,hw⟩
   replace KV:=hide (kv_d KV.out hw)
   replace HB:=hide (hb_d HB.out hw)
   clear hw
   go_wp2_with fail
   refine (CH.out _).mono ?_
   rintro e w1 ⟨rfl,m,hw⟩
   replace KV:=hide (kv_d KV.out hw)
   replace HB:=hide (hb_d HB.out hw)
   clear hw
   go_wp2_with fail
   refine (CU.out _).mono ?_
   rintro e w1 ⟨rfl,m,hw⟩
   replace KV:=hide (kv_d KV.out hw)
   replace HB:=hide (hb_d HB.out hw)
   clear hw
   go_wp2_with fail
   refine (CO.out _).mono ?_
   rintro e w1 ⟨rfl,m,hw⟩
   replace KV:=hide (kv_d KV.out hw)
   replace HB:=hide (hb_d HB.out hw)
   clear hw
   obtain ⟨z0,y0,z1,y1,z2,y2,z3,y3,z4,y4,z5,y5,z6,y6,z7,y7,z8,y8,z9,y9,z10,y10,zlt⟩:=blk11 KV.out
   go_wp2_with fail
   exact rr_end KV.out HB.out rfl rfl rfl
  have jC:((hd.extract 0 4).toList == [0,1,0,0])=true:=by have h:=P3.out;rw [qC] at h;exact h.symm
  have iC:((hd.extract 0 4).toList != [0,1,0,0])=false:=by unfold bne;rw [jC];rfl
  cases qD:sayB hd 12 magicS
  ·have jD:((hd.extract 12 16).toList == [95,15,60,245])=false:=by have h:=P4.out;rw [qD] at h;exact h.symm
   have iD:((hd.extract 12 16).toList != [95,15,60,245])=true:=by unfold bne;rw [jD];rfl
   clear ALL EALL EHD EHH EL P1 P2 P3 P4 P5
   go_enter Tryz.func16,Tryz.ntmps16
   go_wp2_with fail
   rw [HVV.out]
   refine CF0.out.mono ?_
   rintro e w1 ⟨rfl,hw⟩
   replace hw:=hw.symm
   subst hw
   go_wp2_with fail
   refine CF1.out.mono ?_
   rintro e w1 ⟨rfl,hw⟩
   replace hw:=hw.symm
   subst hw
   go_wp2_with fail
   refine CF2.out.mono ?_
   rintro e w1 ⟨rfl,hw⟩
   replace hw:=hw.symm
   subst hw
   go_wp2_with fail
   refine CF3.out.mono ?_
   rintro e w1 ⟨rfl,hw⟩
   replace hw:=hw.symm
   subst hw
   go_wp2_with fail
   refine (CN.out _).mono ?_
   rintro e w1 ⟨rfl,m,hw⟩
   replace KV:=hide (kv_d KV.out hw)
   replace HB:=hide (hb_d HB.out hw)
   clear hw
   go_wp2_with fail
   refine (CH.out _).mono ?_
   rintro e w1 ⟨rfl,m,hw⟩
   replace KV:=hide (kv_d KV.out hw)
   replace HB:=hide (hb_d HB.out hw)
   clear hw
   go_wp2_with fail
   refine (CU.out _).mono ?_
   rintro e w1 ⟨rfl,m,hw⟩
   replace KV:=hide (kv_d KV.out hw)
   replace HB:=hide (hb_d HB.out hw)
   clear hw
   go_wp2_with fail
   refine (CO.out _).mono ?_
   rintro e w1 ⟨rfl,m,hw⟩
   replace KV:=hide (kv_d KV.out hw)
   replace HB:=hide (hb_d HB.out hw)
   clear hw
   obtain ⟨z0,y0,z1,y1,z2,y2,z3,y3,z4,y4,z5,y5,z6,y6,z7,y7,z8,y8,z9,y9,z10,y10,zlt⟩:=blk11 KV.out
   go_wp2_with fail
   exact rr_end KV.out HB.out rfl rfl rfl
  have jD:((hd.extract 12 16).toList == [95,15,60,245])=true:=by have h:=P4.out;rw [qD] at h;exact h.symm
  have iD:((hd.extract 12 16).toList != [95,15,60,245])=false:=by unfold bne;rw [jD];rfl
  by_cases v1:UU < 16
  ·have v1':(UU:Int) < 16:=by omega
   clear ALL EALL EHD EHH EL P1 P2 P3 P4 P5
   go_enter Tryz.func16,Tryz.ntmps16
   go_wp2_with fail
   rw [HVV.out]
   refine CF0.out.mono ?_
   rintro e w1 ⟨rfl,hw⟩
   replace hw:=hw.symm
   subst hw
   go_wp2_with fail
   refine CF1.out.mono ?_
   rintro e w1 ⟨rfl,hw⟩
   replace hw:=hw.symm
   subst hw
   go_wp2_with fail
   refine CF2.out.mono ?_
   rintro e w1 ⟨rfl,hw⟩
   replace hw:=hw.symm
   subst hw
   go_wp2_with fail
   refine CF3.out.mono ?_
   rintro e w1 ⟨rfl,hw⟩
   replace hw:=hw.symm
   subst hw
   go_wp2_with fail
   refine (CN.out _).mono ?_
   rintro e w1 ⟨rfl,m,hw⟩
   replace KV:=hide (kv_d KV.out hw)
   replace HB:=hide (hb_d HB.out hw)
   clear hw
   go_wp2_with fail
   refine (CH.out _).mono ?_
   rintro e w1 ⟨rfl,m,hw⟩
   replace KV:=hide (kv_d KV.out hw)
   replace HB:=hide (hb_d HB.out hw)
   clear hw
   go_wp2_with fail
   refine (CU.out _).mono ?_
   rintro e w1 ⟨rfl,m,hw⟩
   replace KV:=hide (kv_d KV.out hw)
   replace HB:=hide (hb_d HB.out hw)
   clear hw
   go_wp2_with fail
   refine (CO.out _).mono ?_
   rintro e w1 ⟨rfl,m,hw⟩
   replace KV:=hide (kv_d KV.out hw)
   replace HB:=hide (hb_d HB.out hw)
   clear hw
   obtain ⟨z0,y0,z1,y1,z2,y2,z3,y3,z4,y4,z5,y5,z6,y6,z7,y7,z8,y8,z9,y9,z10,y10,zlt⟩:=blk11 KV.out
   go_wp2_with fail
   exact rr_end KV.out HB.out rfl rfl rfl
  have v1':¬(UU:Int) < 16:=by omega
  by_cases v2:16384 < UU
  ·have v2':(16384:Int) < (UU:Int):=by omega
   clear v2
   clear ALL EALL EHD EHH EL P1 P2 P3 P4 P5
   go_enter Tryz.func16,Tryz.ntmps16
   go_wp2_with fail
   rw [HVV.out]
   refine CF0.out.mono ?_
   rintro e w1 ⟨rfl,hw⟩
   replace hw:=hw.symm
   subst hw
   go_wp2_with fail
   refine CF1.out.mono ?_
   rintro e w1 ⟨rfl,hw⟩
   replace hw:=hw.symm
   subst hw
   go_wp2_with fail
   refine CF2.out.mono ?_
   rintro e w1 ⟨rfl,hw⟩
   replace hw:=hw.symm
   subst hw
   go_wp2_with fail
   refine CF3.out.mono ?_
   rintro e w1 ⟨rfl,hw⟩
   replace hw:=hw.symm
   subst hw
   go_wp2_with fail
   refine (CN.out _).mono ?_
   rintro e w1 ⟨rfl,m,hw⟩
   replace KV:=hide (kv_d KV.out hw)
   replace HB:=hide (hb_d HB.out hw)
   clear hw
   go_wp2_with fail
   refine (CH.out _).mono ?_
   rintro e w1 ⟨rfl,m,hw⟩
   replace KV:=hide (kv_d KV.out hw)
   replace HB:=hide (hb_d HB.out hw)
   clear hw
   go_wp2_with fail
   refine (CU.out _).mono ?_
   rintro e w1 ⟨rfl,m,hw⟩
   replace KV:=hide (kv_d KV.out hw)
   replace HB:=hide (hb_d HB.out hw)
   clear hw
   go_wp2_with fail
   refine (CO.out _).mono ?_
   rintro e w1 ⟨rfl,m,hw⟩
   replace KV:=hide (kv_d KV.out hw)
   replace HB:=hide (hb_d HB.out hw)
   clear hw
   obtain ⟨z0,y0,z1,y1,z2,y2,z3,y3,z4,y4,z5,y5,z6,y6,z7,y7,z8,y8,z9,y9,z10,y10,zlt⟩:=blk11 KV.out
   go_wp2_with fail
   exact rr_end KV.out HB.out rfl rfl rfl
  have v2':¬(16384:Int) < (UU:Int):=by omega
  by_cases v3:1 < OO
  ·have v3':(1:Int) < (OO:Int):=by omega
   clear ALL EALL EHD EHH EL P1 P2 P3 P4 P5
   go_enter Tryz.func16,Tryz.ntmps16
   go_wp2_with fail
   rw [HVV.out]
   refine CF0.out.mono ?_
   rintro e w1 ⟨rfl,hw⟩
   replace hw:=hw.symm
   subst hw
   go_wp2_with fail
   refine CF1.out.mono ?_
   rintro e w1 ⟨rfl,hw⟩
   replace hw:=hw.symm
   subst hw
   go_wp2_with fail
   refine CF2.out.mono ?_
   rintro e w1 ⟨rfl,hw⟩
   replace hw:=hw.symm
   subst hw
   go_wp2_with fail
   refine CF3.out.mono ?_
   rintro e w1 ⟨rfl,hw⟩
   replace hw:=hw.symm
   subst hw
   go_wp2_with fail
   refine (CN.out _).mono ?_
   rintro e w1 ⟨rfl,m,hw⟩
   replace KV:=hide (kv_d KV.out hw)
   replace HB:=hide (hb_d HB.out hw)
   clear hw
   go_wp2_with fail
   refine (CH.out _).mono ?_
   rintro e w1 ⟨rfl,m,hw⟩
   replace KV:=hide (kv_d KV.out hw)
   replace HB:=hide (hb_d HB.out hw)
   clear hw
   go_wp2_with fail
   refine (CU.out _).mono ?_
   rintro e w1 ⟨rfl,m,hw⟩
   replace KV:=hide (kv_d KV.out hw)
   replace HB:=hide (hb_d HB.out hw)
   clear hw
   go_wp2_with fail
   refine (CO.out _).mono ?_
   rintro e w1 ⟨rfl,m,hw⟩
   replace KV:=hide (kv_d KV.out hw)
   replace HB:=hide (hb_d HB.out hw)
   clear hw
   obtain ⟨z0,y0,z1,y1,z2,y2,z3,y3,z4,y4,z5,y5,z6,y6,z7,y7,z8,y8,z9,y9,z10,y10,zlt⟩:=blk11 KV.out
   go_wp2_with fail
   exact rr_end KV.out HB.out rfl rfl rfl
  have v3':¬(1:Int) < (OO:Int):=by omega
  by_cases v4:X52=0
  case neg=>
   have v4':((X52:Int) == 0)=false:=by simp;omega
   have v4b:((X52:Int) != 0)=true:=by simp;omega
   have v4c:¬(X52:Int)=0:=by omega
   clear ALL EALL EHD EHH EL P1 P2 P3 P4 P5
   go_enter Tryz.func16,Tryz.ntmps16
   go_wp2_with fail
   rw [HVV.out]
   refine CF0.out.mono ?_
   rintro e w1 ⟨rfl,hw⟩
   replace hw:=hw.symm
   subst hw
   go_wp2_with fail
   refine CF1.out.mono ?_
   rintro e w1 ⟨rfl,hw⟩
   replace hw:=hw.symm
   subst hw
   go_wp2_with fail
   refine CF2.out.mono ?_
   rintro e w1 ⟨rfl,hw⟩
   replace hw:=hw.symm
   subst hw
   go_wp2_with fail
   refine CF3.out.mono ?_
   rintro e w1 ⟨rfl,hw⟩
   replace hw:=hw.symm
   subst hw
   go_wp2_with fail
   refine (CN.out _).mono ?_
   rintro e w1 ⟨rfl,m,hw⟩
   replace KV:=hide (kv_d KV.out hw)
   replace HB:=hide (hb_d HB.out hw)
   clear hw
   go_wp2_with fail
   refine (CH.out _).mono ?_
   rintro e w1 ⟨rfl,m,hw⟩
   replace KV:=hide (kv_d KV.out hw)
   replace HB:=hide (hb_d HB.out hw)
   clear hw
   go_wp2_with fail
   refine (CU.out _).mono ?_
   rintro e w1 ⟨rfl,m,hw⟩
   replace KV:=hide (kv_d KV.out hw)
   replace HB:=hide (hb_d HB.out hw)
   clear hw
   go_wp2_with fail
   refine (CO.out _).mono ?_
   rintro e w1 ⟨rfl,m,hw⟩
   replace KV:=hide (kv_d KV.out hw)
   replace HB:=hide (hb_d HB.out hw)
   clear hw
   obtain ⟨z0,y0,z1,y1,z2,y2,z3,y3,z4,y4,z5,y5,z6,y6,z7,y7,z8,y8,z9,y9,z10,y10,zlt⟩:=blk11 KV.out
   go_wp2_with fail
   clear z0 y0 z1 y1 z2 y2 z3 y3 z4 y4 z5 y5 z6 y6 z7 y7 z8 y8 z9 y9 z10 y10 zlt
   refine (C52.out _).mono ?_
   rintro e w1 ⟨rfl,m,hw⟩
   replace KV:=hide (kv_d KV.out hw)
   replace HB:=hide (hb_d HB.out hw)
   clear hw
   obtain ⟨z0,y0,z1,y1,z2,y2,z3,y3,z4,y4,z5,y5,z6,y6,z7,y7,z8,y8,z9,y9,z10,y10,zlt⟩:=blk11 KV.out
   go_wp2_with fail
   exact rr_end KV.out HB.out rfl rfl rfl
  subst v4
  have thd:hdB hd=true:=by rw [EHD.out,qC,qD,wiB_t1 (show (16:Int)≤(UU:Int) by omega) (show (UU:Int)≤16384 by omega),wiB_t1 (show (0:Int)≤(OO:Int) by omega) (show (OO:Int)≤1 by omega)];rfl
  rw [thd,Bool.true_and] at EALL
  clear v1 v2 v3 thd EHD
  cases qE:sayB hh 0 verS
  ·have jE:((hh.extract 0 4).toList == [0,1,0,0])=false:=by have h:=P5.out;rw [qE] at h;exact h.symm
   have iE:((hh.extract 0 4).toList != [0,1,0,0])=true:=by unfold bne;rw [jE];rfl
   clear ALL EALL EHH EL P1 P2 P3 P4 P5
   go_enter Tryz.func16,Tryz.ntmps16
   go_wp2_with fail
   rw [HVV.out]
   refine CF0.out.mono ?_
   rintro e w1 ⟨rfl,hw⟩
   replace hw:=hw.symm
   subst hw
   go_wp2_with fail
   refine CF1.out.mono ?_
   rintro e w1 ⟨rfl,hw⟩
   replace hw:=hw.symm
   subst hw
   go_wp2_with fail
   refine CF2.out.mono ?_
   rintro e w1 ⟨rfl,hw⟩
   replace hw:=hw.symm
   subst hw
   go_wp2_with fail
   refine CF3.out.mono ?_
   rintro e w1 ⟨rfl,hw⟩
   replace hw:=hw.symm
   subst hw
   go_wp2_with fail
   refine (CN.out _).mono ?_
   rintro e w1 ⟨rfl,m,hw⟩
   replace KV:=hide (kv_d KV.out hw)
   replace HB:=hide (hb_d HB.out hw)
   clear hw
   go_wp2_with fail
   refine (CH.out _).mono ?_
   rintro e w1 ⟨rfl,m,hw⟩
   replace KV:=hide (kv_d KV.out hw)
   replace HB:=hide (hb_d HB.out hw)
   clear hw
   go_wp2_with fail
   refine (CU.out _).mono ?_
   rintro e w1 ⟨rfl,m,hw⟩
   replace KV:=hide (kv_d KV.out hw)
   replace HB:=hide (hb_d HB.out hw)
   clear hw
   go_wp2_with fail
   refine (CO.out _).mono ?_
   rintro e w1 ⟨rfl,m,hw⟩
   replace KV:=hide (kv_d KV.out hw)
   replace HB:=hide (hb_d HB.out hw)
   clear hw
   obtain ⟨z0,y0,z1,y1,z2,y2,z3,y3,z4,y4,z5,y5,z6,y6,z7,y7,z8,y8,z9,y9,z10,y10,zlt⟩:=blk11 KV.out
   go_wp2_with fail
   clear z0 y0 z1 y1 z2 y2 z3 y3 z4 y4 z5 y5 z6 y6 z7 y7 z8 y8 z9 y9 z10 y10 zlt
   refine (C52.out _).mono ?_
   rintro e w1 ⟨rfl,m,hw⟩
   replace KV:=hide (kv_d KV.out hw)
   replace HB:=hide (hb_d HB.out hw)
   clear hw
   obtain ⟨z0,y0,z1,y1,z2,y2,z3,y3,z4,y4,z5,y5,z6,y6,z7,y7,z8,y8,z9,y9,z10,y10,zlt⟩:=blk11 KV.out
   go_wp2_with fail
   exact rr_end KV.out HB.out rfl rfl rfl
  have jE:((hh.extract 0 4).toList == [0,1,0,0])=true:=by have h:=P5.out;rw [qE] at h;exact h.symm
  have iE:((hh.extract 0 4).toList != [0,1,0,0])=false:=by unfold bne;rw [jE];rfl
  by_cases y4:X32=0
  case neg=>
   have y4':((X32:Int) == 0)=false:=by simp;omega
   have y4b:((X32:Int) != 0)=true:=by simp;omega
   have y4c:¬(X32:Int)=0:=by omega
   clear ALL EALL EHH EL P1 P2 P3 P4 P5
   go_enter Tryz.func16,Tryz.ntmps16
   go_wp2_with fail
   rw [HVV.out]
   refine CF0.out.mono ?_
   rintro e w1 ⟨rfl,hw⟩
   replace hw:=hw.symm
   subst hw
   go_wp2_with fail
   refine CF1.out.mono ?_
   rintro e w1 ⟨rfl,hw⟩
   replace hw:=hw.symm
   subst hw
   go_wp2_with fail
   refine CF2.out.mono ?_
   rintro e w1 ⟨rfl,hw⟩
   replace hw:=hw.symm
   subst hw
   go_wp2_with fail
   refine CF3.out.mono ?_
   rintro e w1 ⟨rfl,hw⟩
   replace hw:=hw.symm
   subst hw
   go_wp2_with fail
   refine (CN.out _).mono ?_
   rintro e w1 ⟨rfl,m,hw⟩
   replace KV:=hide (kv_d KV.out hw)
   replace HB:=hide (hb_d HB.out hw)
   clear hw
   go_wp2_with fail
   refine (CH.out _).mono ?_
   rintro e w1 ⟨rfl,m,hw⟩
   replace KV:=hide (kv_d KV.out hw)
   replace HB:=hide (hb_d HB.out hw)
   clear hw
   go_wp2_with fail
   refine (CU.out _).mono ?_
   rintro e w1 ⟨rfl,m,hw⟩
   replace KV:=hide (kv_d KV.out hw)
   replace HB:=hide (hb_d HB.out hw)
   clear hw
   go_wp2_with fail
   refine (CO.out _).mono ?_
   rintro e w1 ⟨rfl,m,hw⟩
   replace KV:=hide (kv_d KV.out hw)
   replace HB:=hide (hb_d HB.out hw)
   clear hw
   obtain ⟨z0,y0,z1,y1,z2,y2,z3,y3,z4,y4,z5,y5,z6,y6,z7,y7,z8,y8,z9,y9,z10,y10,zlt⟩:=blk11 KV.out
   go_wp2_with fail
   clear z0 y0 z1 y1 z2 y2 z3 y3 z4 y4 z5 y5 z6 y6 z7 y7 z8 y8 z9 y9 z10 y10 zlt
   refine (C52.out _).mono ?_
   rintro e w1 ⟨rfl,m,hw⟩
   replace KV:=hide (kv_d KV.out hw)
   replace HB:=hide (hb_d HB.out hw)
   clear hw
   obtain ⟨z0,y0,z1,y1,z2,y2,z3,y3,z4,y4,z5,y5,z6,y6,z7,y7,z8,y8,z9,y9,z10,y10,zlt⟩:=blk11 KV.out
   go_wp2_with fail
   clear z0 y0 z1 y1 z2 y2 z3 y3 z4 y4 z5 y5 z6 y6 z7 y7 z8 y8 z9 y9 z10 y10 zlt
   refine (C32.out _).mono ?_
   rintro e w1 ⟨rfl,m,hw⟩
   replace KV:=hide (kv_d KV.out hw)
   replace HB:=hide (hb_d HB.out hw)
   clear hw
   obtain ⟨z0,y0,z1,y1,z2,y2,z3,y3,z4,y4,z5,y5,z6,y6,z7,y7,z8,y8,z9,y9,z10,y10,zlt⟩:=blk11 KV.out
   go_wp2_with fail
   exact rr_end KV.out HB.out rfl rfl rfl
  subst y4
  by_cases h1:H < 1
  ·have h1':(H:Int) < 1:=by omega
   clear ALL EALL EHH EL P1 P2 P3 P4 P5
   go_enter Tryz.func16,Tryz.ntmps16
   go_wp2_with fail
   rw [HVV.out]
   refine CF0.out.mono ?_
   rintro e w1 ⟨rfl,hw⟩
   replace hw:=hw.symm
   subst hw
   go_wp2_with fail
   refine CF1.out.mono ?_
   rintro e w1 ⟨rfl,hw⟩
   replace hw:=hw.symm
   subst hw
   go_wp2_with fail
   refine CF2.out.mono ?_
   rintro e w1 ⟨rfl,hw⟩
   replace hw:=hw.symm
   subst hw
   go_wp2_with fail
   refine CF3.out.mono ?_
   rintro e w1 ⟨rfl,hw⟩
   replace hw:=hw.symm
   subst hw
   go_wp2_with fail
   refine (CN.out _).mono ?_
   rintro e w1 ⟨rfl,m,hw⟩
   replace KV:=hide (kv_d KV.out hw)
   replace HB:=hide (hb_d HB.out hw)
   clear hw
   go_wp2_with fail
   refine (CH.out _).mono ?_
   rintro e w1 ⟨rfl,m,hw⟩
   replace KV:=hide (kv_d KV.out hw)
   replace HB:=hide (hb_d HB.out hw)
   clear hw
   go_wp2_with fail
   refine (CU.out _).mono ?_
   rintro e w1 ⟨rfl,m,hw⟩
   replace KV:=hide (kv_d KV.out hw)
   replace HB:=hide (hb_d HB.out hw)
   clear hw
   go_wp2_with fail
   refine (CO.out _).mono ?_
   rintro e w1 ⟨rfl,m,hw⟩
   replace KV:=hide (kv_d KV.out hw)
   replace HB:=hide (hb_d HB.out hw)
   clear hw
   obtain ⟨z0,y0,z1,y1,z2,y2,z3,y3,z4,y4,z5,y5,z6,y6,z7,y7,z8,y8,z9,y9,z10,y10,zlt⟩:=blk11 KV.out
   go_wp2_with fail
   clear z0 y0 z1 y1 z2 y2 z3 y3 z4 y4 z5 y5 z6 y6 z7 y7 z8 y8 z9 y9 z10 y10 zlt
   refine (C52.out _).mono ?_
   rintro e w1 ⟨rfl,m,hw⟩
   replace KV:=hide (kv_d KV.out hw)
   replace HB:=hide (hb_d HB.out hw)
   clear hw
   obtain ⟨z0,y0,z1,y1,z2,y2,z3,y3,z4,y4,z5,y5,z6,y6,z7,y7,z8,y8,z9,y9,z10,y10,zlt⟩:=blk11 KV.out
   go_wp2_with fail
   clear z0 y0 z1 y1 z2 y2 z3 y3 z4 y4 z5 y5 z6 y6 z7 y7 z8 y8 z9 y9 z10 y10 zlt
   refine (C32.out _).mono ?_
   rintro e w1 ⟨rfl,m,hw⟩
   replace KV:=hide (kv_d KV.out hw)
   replace HB:=hide (hb_d HB.out hw)
   clear hw
   obtain ⟨z0,y0,z1,y1,z2,y2,z3,y3,z4,y4,z5,y5,z6,y6,z7,y7,z8,y8,z9,y9,z10,y10,zlt⟩:=blk11 KV.out
   go_wp2_with fail
   exact rr_end KV.out HB.out rfl rfl rfl
  have h1':¬(H:Int) < 1:=by omega
  by_cases h2:N < H
  ·have h2':(N:Int) < (H:Int):=by omega
   clear ALL EALL EHH EL P1 P2 P3 P4 P5
   go_enter Tryz.func16,Tryz.ntmps16
   go_wp2_with fail
   rw [HVV.out]
   refine CF0.out.mono ?_
   rintro e w1 ⟨rfl,hw⟩
   replace hw:=hw.symm
   subst hw
   go_wp2_with fail
   refine CF1.out.mono ?_
   rintro e w1 ⟨rfl,hw⟩
   replace hw:=hw.symm
   subst hw
   go_wp2_with fail
   refine CF2.out.mono ?_
   rintro e w1 ⟨rfl,hw⟩
   replace hw:=hw.symm
   subst hw
   go_wp2_with fail
   refine CF3.out.mono ?_
   rintro e w1 ⟨rfl,hw⟩
   replace hw:=hw.symm
   subst hw
   go_wp2_with fail
   refine (CN.out _).mono ?_
   rintro e w1 ⟨rfl,m,hw⟩
   replace KV:=hide (kv_d KV.out hw)
   replace HB:=hide (hb_d HB.out hw)
   clear hw
   go_wp2_with fail
   refine (CH.out _).mono ?_
   rintro e w1 ⟨rfl,m,hw⟩
   replace KV:=hide (kv_d KV.out hw)
   replace HB:=hide (hb_d HB.out hw)
   clear hw
   go_wp2_with fail
   refine (CU.out _).mono ?_
   rintro e w1 ⟨rfl,m,hw⟩
   replace KV:=hide (kv_d KV.out hw)
   replace HB:=hide (hb_d HB.out hw)
   clear hw
   go_wp2_with fail
   refine (CO.out _).mono ?_
   rintro e w1 ⟨rfl,m,hw⟩
   replace KV:=hide (kv_d KV.out hw)
   replace HB:=hide (hb_d HB.out hw)
   clear hw
   obtain ⟨z0,y0,z1,y1,z2,y2,z3,y3,z4,y4,z5,y5,z6,y6,z7,y7,z8,y8,z9,y9,z10,y10,zlt⟩:=blk11 KV.out
   go_wp2_with fail
   clear z0 y0 z1 y1 z2 y2 z3 y3 z4 y4 z5 y5 z6 y6 z7 y7 z8 y8 z9 y9 z10 y10 zlt
   refine (C52.out _).mono ?_
   rintro e w1 ⟨rfl,m,hw⟩
   replace KV:=hide (kv_d KV.out hw)
   replace HB:=hide (hb_d HB.out hw)
   clear hw
   obtain ⟨z0,y0,z1,y1,z2,y2,z3,y3,z4,y4,z5,y5,z6,y6,z7,y7,z8,y8,z9,y9,z10,y10,zlt⟩:=blk11 KV.out
   go_wp2_with fail
   clear z0 y0 z1 y1 z2 y2 z3 y3 z4 y4 z5 y5 z6 y6 z7 y7 z8 y8 z9 y9 z10 y10 zlt
   refine (C32.out _).mono ?_
   rintro e w1 ⟨rfl,m,hw⟩
   replace KV:=hide (kv_d KV.out hw)
   replace HB:=hide (hb_d HB.out hw)
   clear hw
   obtain ⟨z0,y0,z1,y1,z2,y2,z3,y3,z4,y4,z5,y5,z6,y6,z7,y7,z8,y8,z9,y9,z10,y10,zlt⟩:=blk11 KV.out
   go_wp2_with fail
   exact rr_end KV.out HB.out rfl rfl rfl
  have h2':¬(N:Int) < (H:Int):=by omega
  have h3:(hx.size:Int) < 4 * (H:Int)+2 * ((N:Int) - (H:Int)):=by
   have e:=EALL.out
   rw [ALL.out,EHH.out,qE,wiB_t1 (show (1:Int)≤(H:Int) by omega) (show (H:Int)≤(N:Int) by omega)] at e
   have e2:LB=false:=by simpa using e.symm
   have:=EL.out e2
   omega
  clear h1 h2
  clear ALL EALL EHH EL P1 P2 P3 P4 P5
  go_enter Tryz.func16,Tryz.ntmps16
  go_wp2_with fail
  rw [HVV.out]
  refine CF0.out.mono ?_
  rintro e w1 ⟨rfl,hw⟩
  replace hw:=hw.symm
  subst hw
  go_wp2_with fail
  refine CF1.out.mono ?_
  rintro e w1 ⟨rfl,hw⟩
  replace hw:=hw.symm
  subst hw
  go_wp2_with fail
  refine CF2.out.mono ?_
  rintro e w1 ⟨rfl,hw⟩
  replace hw:=hw.symm
  subst hw
  go_wp2_with fail
  refine CF3.out.mono ?_
  rintro e w1 ⟨rfl,hw⟩
  replace hw:=hw.symm
  subst hw
  go_wp2_with fail
  refine (CN.out _).mono ?_
  rintro e w1 ⟨rfl,m,hw⟩
  replace KV:=hide (kv_d KV.out hw)
  replace HB:=hide (hb_d HB.out hw)
  clear hw
  go_wp2_with fail
  refine (CH.out _).mono ?_
  rintro e w1 ⟨rfl,m,hw⟩
  replace KV:=hide (kv_d KV.out hw)
  replace HB:=hide (hb_d HB.out hw)
  clear hw
  go_wp2_with fail
  refine (CU.out _).mono ?_
  rintro e w1 ⟨rfl,m,hw⟩
  replace KV:=hide (kv_d KV.out hw)
  replace HB:=hide (hb_d HB.out hw)
  clear hw
  go_wp2_with fail
  refine (CO.out _).mono ?_
  rintro e w1 ⟨rfl,m,hw⟩
  replace KV:=hide (kv_d KV.out hw)
  replace HB:=hide (hb_d HB.out hw)
  clear hw
  obtain ⟨z0,y0,z1,y1,z2,y2,z3,y3,z4,y4,z5,y5,z6,y6,z7,y7,z8,y8,z9,y9,z10,y10,zlt⟩:=blk11 KV.out
  go_wp2_with fail
  clear z0 y0 z1 y1 z2 y2 z3 y3 z4 y4 z5 y5 z6 y6 z7 y7 z8 y8 z9 y9 z10 y10 zlt
  refine (C52.out _).mono ?_
  rintro e w1 ⟨rfl,m,hw⟩
  replace KV:=hide (kv_d KV.out hw)
  replace HB:=hide (hb_d HB.out hw)
  clear hw
  obtain ⟨z0,y0,z1,y1,z2,y2,z3,y3,z4,y4,z5,y5,z6,y6,z7,y7,z8,y8,z9,y9,z10,y10,zlt⟩:=blk11 KV.out
  go_wp2_with fail
  clear z0 y0 z1 y1 z2 y2 z3 y3 z4 y4 z5 y5 z6 y6 z7 y7 z8 y8 z9 y9 z10 y10 zlt
  refine (C32.out _).mono ?_
  rintro e w1 ⟨rfl,m,hw⟩
  replace KV:=hide (kv_d KV.out hw)
  replace HB:=hide (hb_d HB.out hw)
  clear hw
  obtain ⟨z0,y0,z1,y1,z2,y2,z3,y3,z4,y4,z5,y5,z6,y6,z7,y7,z8,y8,z9,y9,z10,y10,zlt⟩:=blk11 KV.out
  go_wp2_with fail
  exact rr_end KV.out HB.out rfl rfl rfl
end Go.Proofs.YtpaadbnlhapdbaaGreatDoor
