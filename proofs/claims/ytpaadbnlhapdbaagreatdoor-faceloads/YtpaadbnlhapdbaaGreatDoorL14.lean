/-
  Joined: C11Sg, C11Sw, C11Ss, F12R, C11Rg, C11Ra, C11Rt.
-/
import Derived.BigQuiet
import Derived.Test.YtpaadbnlhapdbaaGreatDoorL13
namespace Go.Proofs.YtpaadbnlhapdbaaGreatDoor.C11
open Go.RowKit Go.Deep
set_option linter.unusedVariables false
set_option linter.unusedSimpArgs false
set_option maxRecDepth 8000 in
set_option maxHeartbeats 1000000 in
theorem seg_any (s:ByteArray) (m i:Nat) (w:World) (hs:s.size≤1073741824) (hm:16+8 * m≤s.size) (hi:i < m) :
  Calls Tryz.prog 186 #[.string s,.int .i64 (m:Int),.int .i64 (i:Int)] w fun e w'=>e=.returned (.agg #[.int .i64 (sa s.data.toList m i:Int),.int .i64 (sb s.data.toList i:Int),.int .i64 (sdl s.data.toList m i:Int),.int .i64 (sof s.data.toList m i:Int),.int .i64 (spl m i:Int)])∧Below w.heap.size w w':=by
 have CT:=hide (fun (j:Nat) (z:Int) (w:World) (hz:z=(j:Int)) (h:j+2≤s.size)=>two_any s j z w hz h hs)
 have C1:=hide (fun z w (hz:z=((16+2 * m+2 * i:Nat):Int))=>CT.out _ z w hz (by omega))
 have C2:=hide (fun z w (hz:z=((14+2 * i:Nat):Int))=>CT.out _ z w hz (by omega))
 have C3:=hide (fun z w (hz:z=((16+4 * m+2 * i:Nat):Int))=>CT.out _ z w hz (by omega))
 have C4:=hide (fun z w (hz:z=((16+6 * m+2 * i:Nat):Int))=>CT.out _ z w hz (by omega))
 have hp:((spl m i:Nat):Int)=14+2 * (i:Int)+2 * (m:Int)+2+2 * (m:Int)+2 * (m:Int):=by unfold spl;omega
 rw [hp]
 have e1:n2 s.data.toList (16+2 * m+2 * i)=sa s.data.toList m i:=rfl
 have e2:n2 s.data.toList (14+2 * i)=sb s.data.toList i:=rfl
 have e3:n2 s.data.toList (16+4 * m+2 * i)=sdl s.data.toList m i:=rfl
 have e4:n2 s.data.toList (16+6 * m+2 * i)=sof s.data.toList m i:=rfl
 rw [e1] at C1
 rw [e2] at C2
 rw [e3] at C3
 rw [e4] at C4
 generalize ((sa s.data.toList m i:Nat):Int)=A at *
 generalize ((sb s.data.toList i:Nat):Int)=B at *
 generalize ((sdl s.data.toList m i:Nat):Int)=D at *
 generalize ((sof s.data.toList m i:Nat):Int)=O at *
 have i0:(0:Int)≤(i:Int):=by omega
 have i1:(i:Int)≤1073741824:=by omega
 have m0:(0:Int)≤(m:Int):=by omega
 have m1:(m:Int)≤1073741824:=by omega
 clear e1 e2 e3 e4 hp hi hm
 go_enter Tryz.func186,Tryz.ntmps186
 go_wp2_with fail
 refine (C1.out _ _ (by omega)).mono ?_
 rintro e w1 ⟨rfl,n1,hw⟩
 subst hw
 go_wp2_with fail
 refine (C2.out _ _ (by omega)).mono ?_
 rintro e w1 ⟨rfl,n2,hw⟩
 subst hw
 go_wp2_with fail
 refine (C3.out _ _ (by omega)).mono ?_
 rintro e w1 ⟨rfl,n3,hw⟩
 subst hw
 go_wp2_with fail
 refine (C4.out _ _ (by omega)).mono ?_
 rintro e w1 ⟨rfl,n4,hw⟩
 subst hw
 go_wp2_with fail
 refine bodyPost_ret (v:=.agg #[.int .i64 A,.int .i64 B,.int .i64 D,.int .i64 O,.int .i64 (14+2 * (i:Int)+2 * (m:Int)+2+2 * (m:Int)+2 * (m:Int))]) (by simp [results,Tryz.results186,go_sem]) rfl ⟨rfl,(((((below_drewN ((Below.refl w.heap.size w).alloc (Nat.le_refl _) _) _).setCell (p:=⟨w.heap.size,0,none⟩) (Nat.le_refl _) _).setCell (p:=⟨w.heap.size,1,none⟩) (Nat.le_refl _) _).setCell (p:=⟨w.heap.size,2,none⟩) (Nat.le_refl _) _).setCell (p:=⟨w.heap.size,3,none⟩) (Nat.le_refl _) _).setCell (p:=⟨w.heap.size,4,none⟩) (Nat.le_refl _) _⟩
def glW (l:List UInt8) (a d o p c:Nat):Option Nat:=
 if o=0 then some ((c+d) % 65536) else
 if o % 2≠0∨l.length < p+o+2 * (c - a)+2 then none else
 if n2 l (p+o+2 * (c - a))=0 then some 0 else
 some ((n2 l (p+o+2 * (c - a))+d) % 65536)
def GlR (w:World) (R:Option Nat) (e:Ending) (w':World):Prop:=match R with
 | some g=>e=.returned (.tuple #[.int .i64 (g:Int),.bool true])∧Below w.heap.size w w'
 | none=>e=.returned (.tuple #[.int .i64 0,.bool false])∧Below w.heap.size w w'
set_option maxRecDepth 8000 in
set_option maxHeartbeats 1000000 in
theorem gly_any (s:ByteArray) (a b d o p c:Nat) (w:World) (hs:s.size≤1073741824) (hd:d≤65535) (ho:o≤65535) (hp:p≤1073741824) (hc:c≤65535) (ha:a≤c) :
  Calls Tryz.prog 202 #[.agg #[.int .i64 (a:Int),.int .i64 (b:Int),.int .i64 (d:Int),.int .i64 (o:Int),.int .i64 (p:Int)],.string s,.int .i64 (c:Int)] w (GlR w (glW s.data.toList a d o p c)):=by
 have HB:=hide ((Below.refl w.heap.size w).alloc (Nat.le_refl _) (.cells #[.int .i64 (a:Int),.int .i64 (b:Int),.int .i64 (d:Int),.int .i64 (o:Int),.int .i64 (p:Int)] 237))
 have hs':(s.size:Int)≤1073741824:=by omega
 have a0:(0:Int)≤(a:Int):=by omega
 have a1:(a:Int)≤(c:Int):=by omega
 have c0':(0:Int)≤(c:Int):=by omega
 have c1':(c:Int)≤65535:=by omega
 have d0:(0:Int)≤(d:Int):=by omega
 have d1:(d:Int)≤65535:=by omega
 have o0:(0:Int)≤(o:Int):=by omega
 have o1:(o:Int)≤65535:=by omega
 have p0:(0:Int)≤(p:Int):=by omega
 have p1:(p:Int)≤1073741824:=by omega
 by_cases h1:o=0
 ·have hv:glW s.data.toList a d o p c=some ((c+d) % 65536):=by unfold glW;rw [if_pos h1]
  rw [hv]
  obtain ⟨Y,hY⟩:∃Y,(c+d) % 65536=Y:=⟨_,rfl⟩
  rw [hY]
  have q1:((c:Int)+(d:Int)) % 65536=(Y:Int):=by omega
  have q2:((c:Int)+(d:Int)).tmod 65536=(Y:Int):=by rw [Int.tmod_eq_emod_of_nonneg (by omega)];exact q1
  have t1:((o:Int) == 0)=true:=by simp;omega
  clear hv hY h1 hd ho hp hc ha hs
  go_enter Tryz.func202,Tryz.ntmps202
  go_wp2_with fail
  go_ret2
  exact ⟨rfl,HB.out⟩
 have t1:((o:Int) == 0)=false:=by simp;omega
 by_cases h2:o % 2=0
 case neg=>
  have hv:glW s.data.toList a d o p c=none:=by unfold glW;rw [if_neg h1,if_pos (Or.inl h2)]
  rw [hv]
  have q1:((o:Int)) % 2=1:=by omega
  have q2:((o:Int)).tmod 2=1:=by rw [Int.tmod_eq_emod_of_nonneg (by omega)];exact q1
  clear hv h1 h2 hd ho hp hc ha hs
  go_enter Tryz.func202,Tryz.ntmps202
  go_wp2_with fail
  go_ret2
  exact ⟨rfl,HB.out⟩
 have q1:((o:Int)) % 2=0:=by omega
 have q2:((o:Int)).tmod 2=0:=by rw [Int.tmod_eq_emod_of_nonneg (by omega)];exact q1
 by_cases h3:s.size < p+o+2 * (c - a)+2
 ·have hv:glW s.data.toList a d o p c=none:=by unfold glW;rw [if_neg h1,if_pos (Or.inr (by rw [←Lib.size_eq];exact h3))]
  rw [hv]
  have t3:(s.size:Int) < (p:Int)+(o:Int)+2 * ((c:Int) - (a:Int))+2:=by omega
  clear hv h1 h2 h3 hd ho hp hc ha hs
  go_enter Tryz.func202,Tryz.ntmps202
  go_wp2_with fail
  go_ret2
  exact ⟨rfl,HB.out⟩
 have t3:¬(s.size:Int) < (p:Int)+(o:Int)+2 * ((c:Int) - (a:Int))+2:=by omega
 have C:=hide (fun z w (hz:z=((p+o+2 * (c - a):Nat):Int))=>two_any s (p+o+2 * (c - a)) z w hz (by omega) hs)
 have hv:glW s.data.toList a d o p c=if n2 s.data.toList (p+o+2 * (c - a))=0 then some 0 else some ((n2 s.data.toList (p+o+2 * (c - a))+d) % 65536):=by
  unfold glW
  rw [if_neg h1,if_neg]
  rintro (h | h)
  ·exact h h2
  ·rw [←Lib.size_eq] at h;exact h3 h
 have bt:=n2_lt s.data.toList (p+o+2 * (c - a))
 rw [hv]
 have HZ:Hid ((p:Int)+(o:Int)+2 * ((c:Int) - (a:Int))=((p+o+2 * (c - a):Nat):Int)):=hide (by omega)
 generalize n2 s.data.toList (p+o+2 * (c - a))=G at *
 by_cases h4:G=0
 ·rw [if_pos h4]
  subst h4
  clear hv h1 h2 h3 hd ho hp hc ha hs bt
  go_enter Tryz.func202,Tryz.ntmps202
  go_wp2_with fail
  refine (C.out _ _ HZ.out).mono ?_
  rintro e w1 ⟨rfl,m,hw⟩
  subst hw
  go_wp2_with fail
  go_ret2
  exact ⟨rfl,below_drewN HB.out _⟩
 ·rw [if_neg h4]
  obtain ⟨Y,hY⟩:∃Y,(G+d) % 65536=Y:=⟨_,rfl⟩
  rw [hY]
  have r1:((G:Int)+(d:Int)) % 65536=(Y:Int):=by omega
  have r2:((G:Int)+(d:Int)).tmod 65536=(Y:Int):=by rw [Int.tmod_eq_emod_of_nonneg (by omega)];exact r1
  have t4:((G:Int) == 0)=false:=by simp;omega
  have g0:(0:Int)≤(G:Int):=by omega
  have g1:(G:Int)≤65535:=by omega
  clear hv h1 h2 h3 hd ho hp hc ha hs bt h4 hY
  go_enter Tryz.func202,Tryz.ntmps202
  go_wp2_with fail
  refine (C.out _ _ HZ.out).mono ?_
  rintro e w1 ⟨rfl,m,hw⟩
  subst hw
  have hz:=Blk.drewN (Blk.new w #[.int .i64 (a:Int),.int .i64 (b:Int),.int .i64 (d:Int),.int .i64 (o:Int),.int .i64 (p:Int)] 237) m
  go_wp2_with fail
  go_ret2
  exact ⟨rfl,below_drewN HB.out _⟩
def gstep (n:Nat) (cs:List Ch) (c:Int):Option Nat→Option (List Ch)
 | none=>none
 | some g=>if g < n then addC cs c (g:Int) else none
def stG (l:List UInt8) (a d o p n:Nat) (cs:List Ch) (c:Nat):Option (List Ch):=
 if c=65535∨isP (c:Int)=false then some cs else
 gstep n cs (c:Int) (glW l a d o p c)
def segG (l:List UInt8) (a d o p n:Nat) (cs:List Ch):Nat→Option (List Ch)
 | 0=>some cs
 | j+1=>(segG l a d o p n cs j).bind fun x=>stG l a d o p n x (a+j)
theorem segF_eq (s:List UInt8) (m n i:Nat) (cs:List Ch):∀j,segF s m n i cs j=segG s (sa s m i) (sdl s m i) (sof s m i) (spl m i) n cs j
 | 0=>rfl
 | j+1=>by
  rw [segF,segG,segF_eq s m n i cs j]
  congr 1
theorem segG_none {l:List UInt8} {a d o p n:Nat} {cs:List Ch} {j:Nat} (h:segG l a d o p n cs j=none):∀e,segG l a d o p n cs (j+e)=none
 | 0=>h
 | e+1=>by rw [←Nat.add_assoc,segG,segG_none h e];rfl
theorem segG_end {l:List UInt8} {a d o p n:Nat} {cs:List Ch} {j k:Nat} (h:segG l a d o p n cs j=none) (hk:j≤k):segG l a d o p n cs k=none:=by
 have:=segG_none h (k - j)
 rwa [show j+(k - j)=k by omega] at this
set_option maxRecDepth 8000 in
set_option maxHeartbeats 4000000 in
theorem sw_any (L:Nat) (s:ByteArray) (a b d o p n:Nat) (cur:List Ch) (w:World) (hs:s.size≤1073741824) (hd:d≤65535) (ho:o≤65535) (hp:p≤1073741824) (hb:b≤65535) (hab:a≤b) (hn:n≤4096) (hS:TkS w L cur) (hBD:BD cur) :
  Calls Tryz.prog 187 #[.agg #[.int .i64 (a:Int),.int .i64 (b:Int),.int .i64 (d:Int),.int .i64 (o:Int),.int .i64 (p:Int)],.string s,.int .i64 (n:Int),.func (.func 120) #[] #[.pointer (some ⟨L,0,none⟩)]] w (TkR w L (segG s.data.toList a d o p n cur (b - a+1))):=by
 have hLw:=hS.lt
 have CP:=hide isPt_any
 have CG:=hide (fun (c:Nat) (w:World) (h1:c≤65535) (h2:a≤c)=>gly_any s a b d o p c w hs hd ho hp h1 h2)
 have hal:Below w.heap.size w (w.alloc (.cells #[.int .i64 (a:Int),.int .i64 (b:Int),.int .i64 (d:Int),.int .i64 (o:Int),.int .i64 (p:Int)] 237)):=(Below.refl _ _).alloc (Nat.le_refl _) _
 have HS0:=hide (hS.below hal)
 have HT0:=hide (TF.of_below hal (Nat.le_of_lt hLw))
 have HB0:=hide (Blk.new w #[.int .i64 (a:Int),.int .i64 (b:Int),.int .i64 (d:Int),.int .i64 (o:Int),.int .i64 (p:Int)] 237)
 have HBD:=hide hBD
 have HAB:=hide (And.intro hab hb)
 have hn':(n:Int)≤4096:=by omega
 have a0:(0:Int)≤(a:Int):=by omega
 have ab':(a:Int)≤(b:Int):=by omega
 have b1:(b:Int)≤65535:=by omega
 obtain ⟨cnt,hcnt⟩:∃cnt:Nat,cnt=b - a+1:=⟨_,rfl⟩
 have HCN:=hide hcnt
 rw [←hcnt]
 obtain ⟨RR,hRR⟩:∃RR,segG s.data.toList a d o p n cur cnt=RR:=⟨_,rfl⟩
 rw [hRR]
 have HRR:=hide hRR
 clear hRR hcnt hal hS hBD hab hb hs hd ho hp hn
 go_enter Tryz.func187,Tryz.ntmps187
 go_wp2_with fail
 go_loopw [19] (fun vi wr=>∃(j:Nat) (cu:List Ch),vi=.int .i64 j∧Hid (j≤cnt∧segG s.data.toList a d o p n cur j=some cu∧BD cu∧TkS wr L cu∧TF L w wr∧Blk wr w.heap.size #[.int .i64 (a:Int),.int .i64 (b:Int),.int .i64 (d:Int),.int .i64 (o:Int),.int .i64 (p:Int)] 237)) (fun vi _=>cnt - (intOf vi).toNat)
 case atStart=>exact ⟨0,cur,rfl,hide ⟨by omega,rfl,HBD.out,HS0.out,HT0.out,HB0.out⟩⟩
 case round=>
  obtain ⟨j,cu,rfl,HV⟩:=hrel
  obtain ⟨hj,hgr,hbd,htk,htf,hblk⟩:=HV.out
  have hj0:(0:Int)≤(j:Int):=by omega
  have HGR:=hide hgr
  have HBD2:=hide hbd
  have HTK:=hide htk
  have HTF:=hide htf
  have HBK:=hide hblk
  clear HV hgr hbd htk htf HS0 HT0 HB0
  by_cases hlt:j < cnt
  case neg=>
   have hlt':¬(j:Int) < (b:Int) - (a:Int)+1:=by have:=HCN.out;have:=HAB.out;omega
   have EJ:Hid (RR=some cu):=hide (by
    rw [←HRR.out,←HGR.out]
    obtain rfl:j=cnt:=by omega
    rfl)
   clear hblk
   go_wp2_with fail
   go_ret
   rw [EJ.out]
   exact ⟨rfl,HTK.out,HTF.out⟩
  have hlt':(j:Int) < (b:Int) - (a:Int)+1:=by have:=HCN.out;have:=HAB.out;omega
  have z0:wr.cell? ⟨w.heap.size,0,none⟩=some (.int .i64 (a:Int)):=hblk.cell 0
  have z1:wr.cell? ⟨w.heap.size,1,none⟩=some (.int .i64 (b:Int)):=hblk.cell 1
  have z2:wr.cell? ⟨w.heap.size,2,none⟩=some (.int .i64 (d:Int)):=hblk.cell 2
  have z3:wr.cell? ⟨w.heap.size,3,none⟩=some (.int .i64 (o:Int)):=hblk.cell 3
  have z4:wr.cell? ⟨w.heap.size,4,none⟩=some (.int .i64 (p:Int)):=hblk.cell 4
  have zl:w.heap.size < wr.heap.size:=hblk.lt
  obtain ⟨c,hc⟩:∃c:Int,(a:Int)+(j:Int)=c:=⟨_,rfl⟩
  have q0:0≤c:=by omega
  have q1:c≤65535:=by omega
  have HC:Hid (((a+j:Nat):Int)=c):=hide (by omega)
  have CG1:=hide (fun w=>CG.out (a+j) w (by have:=HC.out;omega) (by omega))
  have EST:Hid (segG s.data.toList a d o p n cur (j+1)=stG s.data.toList a d o p n cu (a+j)):=hide (by rw [segG,HGR.out];rfl)
  have EST0:Hid (stG s.data.toList a d o p n cu (a+j)=if c=65535∨isP c=false then some cu else gstep n cu c (glW s.data.toList a d o p (a+j))):=hide (by
   unfold stG
   rw [HC.out]
   have e:(a+j=65535∨isP c=false)↔(c=65535∨isP c=false):=by
    have:=HC.out
    constructor
    ·rintro (h | h)
     ·exact Or.inl (by omega)
     ·exact Or.inr h
    ·rintro (h | h)
     ·exact Or.inl (by omega)
     ·exact Or.inr h
   by_cases hh:c=65535∨isP c=false
   ·rw [if_pos (e.2 hh),if_pos hh]
   ·rw [if_neg (fun x=>hh (e.1 x)),if_neg hh])
  have hcc:=HC.out
  rw [hcc] at CG1
  generalize glW s.data.toList a d o p (a+j)=GW at *
  have ENO:Hid (segG s.data.toList a d o p n cur (j+1)=none→RR=none):=hide (fun h=>by rw [←HRR.out];exact segG_end h (by omega))
  clear hblk hcc
  by_cases c1:c=65535
  ·have E:Hid (segG s.data.toList a d o p n cur (j+1)=some cu):=hide (by rw [EST.out,EST0.out,if_pos (Or.inl c1)])
   have c1':(c == 65535)=true:=by simpa using c1
   clear EST EST0 ENO c1
   go_wp2_with fail
   go_roundw
   case rel=>exact ⟨j+1,cu,by go_num,hide ⟨by omega,E.out,HBD2.out,HTK.out,HTF.out,HBK.out⟩⟩
   case measure=>simp [intOf];omega
  have c1':(c == 65535)=false:=by simpa using c1
  have CP1:=hide (CP.out c)
  cases hpt:isP c
  ·have E:Hid (segG s.data.toList a d o p n cur (j+1)=some cu):=hide (by rw [EST.out,EST0.out,if_pos (Or.inr hpt)])
   rw [hpt] at CP1
   clear EST EST0 ENO c1 hpt
   go_wp2_with fail
   refine (CP1.out _).mono ?_
   rintro e w1 ⟨rfl,hw⟩
   subst hw
   go_wp2_with fail
   go_roundw
   case rel=>exact ⟨j+1,cu,by go_num,hide ⟨by omega,E.out,HBD2.out,HTK.out,HTF.out,HBK.out⟩⟩
   case measure=>simp [intOf];omega
  have E1:Hid (segG s.data.toList a d o p n cur (j+1)=gstep n cu c GW):=hide (by
   rw [EST.out,EST0.out,if_neg]
   rintro (h | h)
   ·exact c1 h
   ·rw [hpt] at h;cases h)
  rw [hpt] at CP1
  clear EST EST0 c1 hpt
  go_wp2_with fail
  refine (CP1.out _).mono ?_
  rintro e w1 ⟨rfl,hw⟩
  subst hw
  cases GW with
  | none=>
   have EN:=hide (ENO.out E1.out)
   clear ENO E1
   go_wp2_with fail
   refine (CG1.out _).mono ?_
   rintro e w1 ⟨rfl,h1⟩
   have HT1:=hide (HTF.out.trans (TF.of_below h1 (Nat.le_of_lt HTK.out.lt)))
   clear h1
   go_wp2_with fail
   go_ret
   rw [EN.out]
   exact ⟨rfl,HT1.out⟩
  | some g=>
   by_cases hg:g < n
   case neg=>
    have EN:=hide (ENO.out (by rw [E1.out];exact if_neg hg))
    have hg':(n:Int)≤(g:Int):=by omega
    clear ENO E1
    go_wp2_with fail
    refine (CG1.out _).mono ?_
    rintro e w1 ⟨rfl,h1⟩
    have HT1:=hide (HTF.out.trans (TF.of_below h1 (Nat.le_of_lt HTK.out.lt)))
    clear h1
    go_wp2_with fail
    go_ret
    rw [EN.out]
    exact ⟨rfl,HT1.out⟩
   have hg':¬(n:Int)≤(g:Int):=by omega
   have gr0:(0:Int)≤(g:Int):=by omega
   have gr1:(g:Int)≤4294967296:=by omega
   have E2:Hid (segG s.data.toList a d o p n cur (j+1)=addC cu c (g:Int)):=hide (by rw [E1.out];exact if_pos hg)
   have CT:=hide (fun (w:World) (h:TkS w L cu)=>take_any L c (g:Int) cu w h HBD2.out gr0 gr1 q0 (by omega))
   have HADD:=hide (fun cs2 h=>HBD2.out.add (cs':=cs2) q0 (by omega) gr0 gr1 h)
   clear E1 gr1
   generalize addC cu c (g:Int)=AD at *
   cases AD with
   | none=>
    have EN:=hide (ENO.out E2.out)
    clear ENO E2
    go_wp2_with fail
    refine (CG1.out _).mono ?_
    rintro e w1 ⟨rfl,h1⟩
    have HK1:=hide (HTK.out.below h1)
    have HT1:=hide (HTF.out.trans (TF.of_below h1 (Nat.le_of_lt HTK.out.lt)))
    clear h1
    go_wp2_with fail
    refine (CT.out _ HK1.out).mono ?_
    rintro e w2 ⟨rfl,h2⟩
    have HT2:=hide (HT1.out.trans h2)
    clear h2
    go_wp2_with fail
    go_ret
    rw [EN.out]
    exact ⟨rfl,HT2.out⟩
   | some cs2=>
    have HBD3:=hide (HADD.out cs2 rfl)
    clear ENO HADD
    go_wp2_with fail
    refine (CG1.out _).mono ?_
    rintro e w1 ⟨rfl,h1⟩
    have HK1:=hide (HTK.out.below h1)
    have HT1:=hide (HTF.out.trans (TF.of_below h1 (Nat.le_of_lt HTK.out.lt)))
    have HBK1:=hide (HBK.out.below h1)
    clear h1
    go_wp2_with fail
    refine (CT.out _ HK1.out).mono ?_
    rintro e w2 ⟨rfl,hk2,h2⟩
    have HK2:=hide hk2
    have HT2:=hide (HT1.out.trans h2)
    have HBK2:=hide (h2.blk HBK1.out (by omega) (by decide))
    clear h2 hk2
    go_wp2_with fail
    go_roundw
    case rel=>exact ⟨j+1,cs2,by go_num,hide ⟨by omega,E2.out,HBD3.out,HK2.out,HT2.out,HBK2.out⟩⟩
    case measure=>simp [intOf];omega
theorem ext_take (s:ByteArray) (k:Nat):(s.extract 0 k).data.toList=s.data.toList.take k:=by
 rw [Lib.extract_data];simp
theorem segG_bd {l:List UInt8} {a d o p n:Nat} {cs:List Ch} (h:BD cs) (hn:n≤4096) (ha:a≤65535):∀(j:Nat),a+j≤65536→∀{cs2},segG l a d o p n cs j=some cs2→BD cs2
 | 0,_,cs2,e=>by cases e;exact h
 | j+1,hj,cs2,e=>by
  rw [segG] at e
  obtain ⟨x,h1,h2⟩:=Option.bind_eq_some_iff.1 e
  have hx:=segG_bd h hn ha j (by omega) h1
  unfold stG at h2
  split at h2
  ·cases h2;exact hx
  ·rename_i hc
   cases hg:glW l a d o p (a+j) with
   | none=>rw [hg] at h2;cases h2
   | some g=>
    rw [hg] at h2
    unfold gstep at h2
    split at h2
    ·cases h2
    ·rename_i g' e'
     cases e'
     split at h2
     ·exact hx.add (by omega) (by omega) (by omega) (by omega) h2
     ·cases h2
set_option maxRecDepth 8000 in
set_option maxHeartbeats 2000000 in
theorem segs_bad (L:Nat) (s:ByteArray) (n:Nat) (w:World) (hs:s.size≤1073741824) (h:foB s.data.toList=false) :
  Calls Tryz.prog 158 #[.string s,.int .i64 (n:Int),.func (.func 120) #[] #[.pointer (some ⟨L,0,none⟩)]] w fun e w'=>e=.returned (.bool false)∧∃m,w'=w.drewN m:=by
 have hs':(s.size:Int)≤1073741824:=by omega
 have hT:¬(16≤s.data.toList.length∧s.data.toList.take 2=[0,4]∧n2 s.data.toList 6 % 2=0∧1≤n2 s.data.toList 6 / 2∧16+8 * (n2 s.data.toList 6 / 2)≤n2 s.data.toList 2∧n2 s.data.toList 2≤s.data.toList.length):=fun hh=>by rw [foB_t.2 hh] at h;cases h
 rw [←Lib.size_eq] at hT
 clear h
 by_cases h1:s.size < 16
 ·have h1':(s.size:Int) < 16:=by omega
  clear hT
  go_enter Tryz.func158,Tryz.ntmps158
  go_wp2_with fail
  go_ret
  exact ⟨rfl,0,rfl⟩
 have h1':¬(s.size:Int) < 16:=by omega
 have h1b:(2:Int)≤(s.size:Int):=by omega
 have hq:=head_eq s 2 [0,4]
 by_cases h2:s.data.toList.take 2=[0,4]
 case neg=>
  rw [decide_eq_false h2] at hq
  clear hT h2
  go_enter Tryz.func158,Tryz.ntmps158
  go_wp2_with fail
  go_ret
  exact ⟨rfl,0,rfl⟩
 rw [decide_eq_true h2] at hq
 have C2:=hide (fun w=>two_any s 2 2 w rfl (by omega) hs)
 have C6:=hide (fun w=>two_any s 6 6 w rfl (by omega) hs)
 have b2:=n2_lt s.data.toList 2
 have b6:=n2_lt s.data.toList 6
 have HT:Hid (¬(n2 s.data.toList 6 % 2=0∧1≤n2 s.data.toList 6 / 2∧16+8 * (n2 s.data.toList 6 / 2)≤n2 s.data.toList 2∧n2 s.data.toList 2≤s.size)):=hide (fun hh=>hT ⟨by omega,h2,hh⟩)
 generalize n2 s.data.toList 2=Z at *
 generalize n2 s.data.toList 6=T at *
 obtain ⟨z,hz⟩:∃z:Int,(Z:Int)=z:=⟨_,rfl⟩
 obtain ⟨t,ht⟩:∃t:Int,(T:Int)=t:=⟨_,rfl⟩
 obtain ⟨m,hm⟩:∃m:Int,((T / 2:Nat):Int)=m:=⟨_,rfl⟩
 obtain ⟨r,hr⟩:∃r:Int,((T % 2:Nat):Int)=r:=⟨_,rfl⟩
 rw [hz] at C2
 rw [ht] at C6
 have z0:0≤z:=by omega
 have z1:z≤65535:=by omega
 have t0:0≤t:=by omega
 have t1:t≤65535:=by omega
 have m0:0≤m:=by omega
 have m1:m≤65535:=by omega
 have d1:t.tdiv 2=m:=by rw [Int.tdiv_eq_ediv_of_nonneg t0];omega
 have d2:t / 2=m:=by omega
 have d3:t.tmod 2=r:=by rw [Int.tmod_eq_emod_of_nonneg t0];omega
 have d4:t % 2=r:=by omega
 have HT':Hid (¬(r=0∧1≤m∧16+8 * m≤z∧z≤(s.size:Int))):=hide (fun hh=>HT.out (by omega))
 clear hT HT b2 b6 hz ht hm hr h2
 by_cases c1:r=0
 case neg=>
  have c1':(r != 0)=true:=by simpa using c1
  clear HT' c1
  go_enter Tryz.func158,Tryz.ntmps158
  go_wp2_with fail
  refine (C2.out _).mono ?_
  rintro e w1 ⟨rfl,k1,hw⟩
  subst hw
  go_wp2_with fail
  refine (C6.out _).mono ?_
  rintro e w1 ⟨rfl,k2,hw⟩
  subst hw
  go_wp2_with fail
  go_ret
  exact ⟨rfl,_,rfl⟩
 subst c1
 by_cases c2:m < 1
 ·clear HT'
  go_enter Tryz.func158,Tryz.ntmps158
  go_wp2_with fail
  refine (C2.out _).mono ?_
  rintro e w1 ⟨rfl,k1,hw⟩
  subst hw
  go_wp2_with fail
  refine (C6.out _).mono ?_
  rintro e w1 ⟨rfl,k2,hw⟩
  subst hw
  go_wp2_with fail
  go_ret
  exact ⟨rfl,_,rfl⟩
 have c2':decide (m < 1)=false:=by simp;omega
 by_cases c3:z < 16+8 * m
 ·clear HT' c2
  go_enter Tryz.func158,Tryz.ntmps158
  go_wp2_with fail
  refine (C2.out _).mono ?_
  rintro e w1 ⟨rfl,k1,hw⟩
  subst hw
  go_wp2_with fail
  refine (C6.out _).mono ?_
  rintro e w1 ⟨rfl,k2,hw⟩
  subst hw
  go_wp2_with fail
  go_ret
  exact ⟨rfl,_,rfl⟩
 have c3':decide (z < 16+8 * m)=false:=by simp;omega
 have c4:(s.size:Int) < z:=by have:=HT'.out;omega
 clear HT' c2 c3
 go_enter Tryz.func158,Tryz.ntmps158
 go_wp2_with fail
 refine (C2.out _).mono ?_
 rintro e w1 ⟨rfl,k1,hw⟩
 subst hw
 go_wp2_with fail
 refine (C6.out _).mono ?_
 rintro e w1 ⟨rfl,k2,hw⟩
 subst hw
 go_wp2_with fail
 go_ret
 exact ⟨rfl,_,rfl⟩
set_option maxRecDepth 8000 in
set_option maxHeartbeats 4000000 in
theorem segs_ok (L:Nat) (s:ByteArray) (n:Nat) (w:World) (hs:s.size≤1073741824) (h:foB s.data.toList=true) (hn:n≤4096) (hS:TkS w L []) :
  Calls Tryz.prog 158 #[.string s,.int .i64 (n:Int),.func (.func 120) #[] #[.pointer (some ⟨L,0,none⟩)]] w (TkR w L (foV s.data.toList n)):=by
 have hs':(s.size:Int)≤1073741824:=by omega
 have hn':(n:Int)≤4096:=by omega
 have hT:=foB_t.1 h
 rw [←Lib.size_eq] at hT
 obtain ⟨h1,h2,h3,h4,h5,h6⟩:=hT
 have hv:foV s.data.toList n=foW (s.data.toList.take (n2 s.data.toList 2)) (n2 s.data.toList 6 / 2) n:=by unfold foV;rw [h];rfl
 rw [hv]
 have h1':¬(s.size:Int) < 16:=by omega
 have h1b:(2:Int)≤(s.size:Int):=by omega
 have hq:=head_eq s 2 [0,4]
 rw [decide_eq_true h2] at hq
 have C2:=hide (fun w=>two_any s 2 2 w rfl (by omega) hs)
 have C6:=hide (fun w=>two_any s 6 6 w rfl (by omega) hs)
 have b2:=n2_lt s.data.toList 2
 have b6:=n2_lt s.data.toList 6
 have hx:=ext_take s (n2 s.data.toList 2)
 have hxs:(s.extract 0 (n2 s.data.toList 2)).size=n2 s.data.toList 2:=by rw [ByteArray.size_extract];omega
 rw [←hx]
 clear hx hv h
 generalize n2 s.data.toList 2=Z at *
 obtain ⟨M,hM⟩:∃M,n2 s.data.toList 6 / 2=M:=⟨_,rfl⟩
 rw [hM] at h4 h5 ⊢
 obtain ⟨t,ht⟩:∃t:Int,((n2 s.data.toList 6:Nat):Int)=t:=⟨_,rfl⟩
 rw [ht] at C6
 have t0:0≤t:=by omega
 have t1:t≤65535:=by omega
 have d1:t.tdiv 2=(M:Int):=by rw [Int.tdiv_eq_ediv_of_nonneg t0];omega
 have d2:t / 2=(M:Int):=by omega
 have d3:t.tmod 2=0:=by rw [Int.tmod_eq_emod_of_nonneg t0];omega
 have d4:t % 2=0:=by omega
 have m1:(M:Int)≤32767:=by omega
 have m0:(0:Int)≤(M:Int):=by omega
 have c2:¬(M:Int) < 1:=by omega
 have c3:¬(Z:Int) < 16+8 * (M:Int):=by omega
 have c4:¬(s.size:Int) < (Z:Int):=by omega
 have c4n:decide (s.size < Z)=false:=by simp;omega
 have z0:(0:Int)≤(Z:Int):=by omega
 have z1:(Z:Int)≤65535:=by omega
 have H5:=hide h5
 have HXS:=hide hxs
 have HS:=hide hS
 have HMM:Hid (M≤32767):=hide (by omega)
 obtain ⟨X,hX⟩:∃X,s.extract 0 Z=X:=⟨_,rfl⟩
 rw [hX] at HXS ⊢
 have HXX:=hide hX
 have CSG:=hide (fun (i:Nat) (w:World) (hi:i < M)=>seg_any X M i w (by rw [HXS.out];omega) (by rw [HXS.out];exact H5.out) hi)
 have CSW:=hide (fun (a b d o p:Nat) (cur:List Ch) (w:World) (hd:d≤65535) (ho:o≤65535) (hp:p≤1073741824) (hb:b≤65535) (hab:a≤b) (hS:TkS w L cur) (hBD:BD cur)=>sw_any L X a b d o p n cur w (by rw [HXS.out];omega) hd ho hp hb hab hn hS hBD)
 have HL2:=hide (n2_lt X.data.toList)
 have HVB:=hide (fun (i:Nat)=>@foW_bad X.data.toList M n i)
 have HVL:=hide (@foW_last X.data.toList M n)
 have HVF:=hide (fun (i:Nat)=>@foW_full X.data.toList M n i)
 have HVO:=hide (@foW_ok X.data.toList M n)
 clear h1 h2 h3 h4 h5 h6 hM ht hS hxs b2 b6
 go_enter Tryz.func158,Tryz.ntmps158
 go_wp2_with fail
 refine (C2.out _).mono ?_
 rintro e w1 ⟨rfl,k1,hw⟩
 subst hw
 go_wp2_with fail
 refine (C6.out _).mono ?_
 rintro e w1 ⟨rfl,k2,hw⟩
 subst hw
 go_wp2_with fail
 go_loopw [10,51] (fun vl vi wr=>∃(k:Nat) (cur:List Ch),vi=.int .i64 k∧vl=.int .i64 ((leS X.data.toList k:Nat):Int)∧Hid (k≤M∧(∀j,j < k→okS X.data.toList M j=true)∧accS X.data.toList M n k=some cur∧BD cur∧TkS wr L cur∧TF L w wr)) (fun _ vi _=>M - (intOf vi).toNat)
 case atStart=>exact ⟨0,[],rfl,rfl,hide ⟨by omega,fun j hj=>by omega,rfl,BD.nil,HS.out.drewN _,(TF.refl _ _).drewN _⟩⟩
 case round=>
  obtain ⟨k,cur,rfl,rfl,HV⟩:=hrel
  obtain ⟨hk,hok,hac,hbd,htk,htf⟩:=HV.out
  have hk0:(0:Int)≤(k:Int):=by omega
  have HOK:=hide hok
  have HAC:=hide hac
  have HBD:=hide hbd
  have HTK:=hide htk
  have HTF:=hide htf
  clear HV hok hac hbd htk htf HS
  by_cases hlt:k < M
  case neg=>
   have hlt':¬(k:Int) < (M:Int):=by omega
   obtain rfl:k=M:=by omega
   by_cases hlast:leS X.data.toList k=65536
   ·have E:Hid (foW X.data.toList k n=some cur):=hide (by rw [HVO.out HOK.out hlast,HAC.out])
    have hl':(((leS X.data.toList k:Nat):Int) == 65536)=true:=by simp;omega
    generalize ((leS X.data.toList k:Nat):Int)=le at *
    clear hlast
    go_wp2_with fail
    go_ret
    rw [E.out]
    exact ⟨rfl,HTK.out,HTF.out⟩
   ·have E:=hide (HVL.out hlast)
    have hl':(((leS X.data.toList k:Nat):Int) == 65536)=false:=by simp;omega
    generalize ((leS X.data.toList k:Nat):Int)=le at *
    clear hlast
    go_wp2_with fail
    go_ret
    rw [E.out]
    exact ⟨rfl,HTF.out⟩
  have hlt':(k:Int) < (M:Int):=by omega
  have C1:=hide (fun w=>CSG.out k w hlt)
  have ba:=HL2.out (16+2 * M+2 * k)
  have bb:=HL2.out (14+2 * k)
  have bd:=HL2.out (16+4 * M+2 * k)
  have bo:=HL2.out (spl M k)
  have bp:spl M k≤1073741824:=by unfold spl;have:=HMM.out;omega
  have ba:sa X.data.toList M k < 65536:=ba
  have bb:sb X.data.toList k < 65536:=bb
  have bd:sdl X.data.toList M k < 65536:=bd
  have bo:sof X.data.toList M k < 65536:=bo
  have EOK:=hide (show okS X.data.toList M k=decide (leS X.data.toList k≤sa X.data.toList M k∧sa X.data.toList M k≤sb X.data.toList k) from rfl)
  have EAC:=hide (show accS X.data.toList M n (k+1)=segG X.data.toList (sa X.data.toList M k) (sdl X.data.toList M k) (sof X.data.toList M k) (spl M k) n cur (sb X.data.toList k - sa X.data.toList M k+1) by rw [accS,HAC.out];exact segF_eq _ _ _ _ _ _)
  have ELE:=hide (show leS X.data.toList (k+1)=sb X.data.toList k+1 from rfl)
  generalize sa X.data.toList M k=A at *
  generalize sb X.data.toList k=B at *
  generalize sdl X.data.toList M k=D at *
  generalize sof X.data.toList M k=O at *
  generalize spl M k=P at *
  generalize leS X.data.toList k=LE at *
  have a0:(0:Int)≤(A:Int):=by omega
  have a1:(A:Int)≤65535:=by omega
  have b0:(0:Int)≤(B:Int):=by omega
  have b1:(B:Int)≤65535:=by omega
  have HBN:=hide (And.intro ba (And.intro bb (And.intro bd (And.intro bo bp))))
  clear ba bb bd bo bp
  go_wp2_with fail
  refine (C1.out _).mono ?_
  rintro e w1 ⟨rfl,hb1⟩
  have HT1:=hide (HTF.out.trans (TF.of_below hb1 (Nat.le_of_lt HTK.out.lt)))
  have HK1:=hide (HTK.out.below hb1)
  clear hb1
  have hal:Below w1.heap.size w1 (w1.alloc (.cells #[.int .i64 (A:Int),.int .i64 (B:Int),.int .i64 (D:Int),.int .i64 (O:Int),.int .i64 (P:Int)] 237)):=(Below.refl _ _).alloc (Nat.le_refl _) _
  have HT2:=hide (HT1.out.trans (TF.of_below hal (Nat.le_of_lt HK1.out.lt)))
  have HK2:=hide (HK1.out.below hal)
  have HB2:=hide (Blk.new w1 #[.int .i64 (A:Int),.int .i64 (B:Int),.int .i64 (D:Int),.int .i64 (O:Int),.int .i64 (P:Int)] 237)
  have hne:w1.heap.size≠L:=by have:=HK1.out.lt;omega
  clear hal
  by_cases c5:A < LE
  ·have E:=hide (HVB.out k hlt (by rw [EOK.out];exact decide_eq_false (by omega)))
   have c5':(A:Int) < (LE:Int):=by omega
   go_wp2_with fail
   go_ret
   rw [E.out]
   exact ⟨rfl,HT2.out⟩
  have c5':¬(A:Int) < (LE:Int):=by omega
  by_cases c6:B < A
  ·have E:=hide (HVB.out k hlt (by rw [EOK.out];exact decide_eq_false (by omega)))
   have c6':(B:Int) < (A:Int):=by omega
   go_wp2_with fail
   go_ret
   rw [E.out]
   exact ⟨rfl,HT2.out⟩
  have c6':¬(B:Int) < (A:Int):=by omega
  have EY:=hide (show okS X.data.toList M k=true by rw [EOK.out];exact decide_eq_true (by omega))
  have hbn:=HBN.out
  have C7:=hide (CSW.out A B D O P cur _ (by omega) (by omega) hbn.2.2.2.2 (by omega) (by omega) HK2.out HBD.out)
  have EB:Hid (∀cs2,segG X.data.toList A D O P n cur (B - A+1)=some cs2→BD cs2):=hide (fun cs2 h=>segG_bd HBD.out (by omega) (by omega) _ (by omega) h)
  generalize segG X.data.toList A D O P n cur (B - A+1)=RR at *
  clear hbn
  cases RR with
  | none=>
   have E:=hide (HVF.out (k+1) hlt EAC.out)
   go_wp2_with fail
   refine C7.out.mono ?_
   rintro e w2 ⟨rfl,h2⟩
   have HT3:=hide (HT2.out.trans h2)
   clear h2
   go_wp2_with fail
   go_ret
   rw [E.out]
   exact ⟨rfl,HT3.out⟩
  | some cs2=>
   have HBD2:=hide (EB.out cs2 rfl)
   go_wp2_with fail
   refine C7.out.mono ?_
   rintro e w2 ⟨rfl,hk2,h2⟩
   have HT3:=hide (HT2.out.trans h2)
   have HK3:=hide hk2
   have hb3:=h2.blk HB2.out hne (by decide)
   have y1:w2.cell? ⟨w1.heap.size,1,none⟩=some (.int .i64 (B:Int)):=hb3.cell 1
   have yl:w1.heap.size < w2.heap.size:=hb3.lt
   have EL2:Hid (((leS X.data.toList (k+1):Nat):Int)=(B:Int)+1):=hide (by rw [ELE.out];omega)
   clear h2 hk2 hb3
   go_wp2_with fail
   go_roundw
   case rel=>exact ⟨k+1,cs2,by go_num,by rw [EL2.out],hide ⟨by omega,fun i hi=>by
     rcases Nat.lt_or_ge i k with h' | h'
     ·exact HOK.out i h'
     ·obtain rfl:i=k:=by omega
      exact EY.out,EAC.out,HBD2.out,HK3.out,HT3.out⟩⟩
   case measure=>simp [intOf];omega
theorem segs_any (L:Nat) (s:ByteArray) (n:Nat) (w:World) (hs:s.size≤1073741824) (hn:n≤4096) (hS:TkS w L []) :
  Calls Tryz.prog 158 #[.string s,.int .i64 (n:Int),.func (.func 120) #[] #[.pointer (some ⟨L,0,none⟩)]] w (TkR w L (foV s.data.toList n)):=by
 cases h:foB s.data.toList
 ·have hv:foV s.data.toList n=none:=by unfold foV;rw [h];rfl
  rw [hv]
  exact (segs_bad L s n w hs h).mono fun e w' ⟨h1,m,h2⟩=>⟨h1,by rw [h2];exact (TF.refl _ _).drewN _⟩
 ·exact segs_ok L s n w hs h hn hS
set_option maxHeartbeats 1000000 in
theorem walk_none (L:Nat) (t:ByteArray) (n:Nat) (w:World) (hs:t.size≤1073741824) (hS:TkS w L []) (hw:fstI (fun j=>wiR (rp t.data.toList j) (re t.data.toList j)) (kR t.data.toList)=none) (hna:fstI (fun j=>naR (rp t.data.toList j) (re t.data.toList j)) (kR t.data.toList)=none) (hkb:kR t.data.toList≤65535) :
  Calls Tryz.prog 121 #[.string t,.int .i64 (n:Int),.func (.func 120) #[] #[.pointer (some ⟨L,0,none⟩)]] w (TkR w L none):=by
 have CR:=hide (rows_any t w hs)
 have CI:=hide (fun a c w (h:RwL w a t.data.toList (kR t.data.toList))=>index_w a t.data.toList (kR t.data.toList) c w hkb h)
 have CN:=hide (fun a c w (h:RwL w a t.data.toList (kR t.data.toList))=>index_n a t.data.toList (kR t.data.toList) c w hkb h)
 rw [hw] at CI
 rw [hna] at CN
 have hix:ixV none=-1:=rfl
 rw [hix] at CI CN
 have HS:=hide hS
 generalize kR t.data.toList=K at *
 have kb:(K:Int)≤65535:=by omega
 clear hS hw hna hix
 go_enter Tryz.func121,Tryz.ntmps121
 go_wp2_with fail
 refine CR.out.mono ?_
 rintro e w1 ⟨a,c,rfl,hr1,hb1⟩
 have HR1:=hide hr1
 have HB1:=hide hb1
 clear hr1 hb1
 go_wp2_with fail
 refine (CI.out _ _ _ HR1.out).mono ?_
 rintro e w2 ⟨rfl,hb2⟩
 have HB2:=hide (HB1.out.trans (hb2.mono HB1.out.size))
 have HR2:=hide (HR1.out.below hb2)
 clear hb2
 go_wp2_with fail
 refine (CN.out _ _ _ HR2.out).mono ?_
 rintro e w3 ⟨rfl,hb3⟩
 have HB3:=hide (HB2.out.trans (hb3.mono HB2.out.size))
 clear hb3
 go_wp2_with fail
 go_ret
 exact ⟨rfl,TF.of_below HB3.out (Nat.le_of_lt HS.out.lt)⟩
set_option maxHeartbeats 1000000 in
theorem walk_narrow (L:Nat) (t:ByteArray) (n i:Nat) (w:World) (hs:t.size≤1073741824) (hn:n≤4096) (hS:TkS w L []) (hr:rowB t.data.toList=true) (hw:wiI t.data.toList=none) (hna:naI t.data.toList=some i) :
  Calls Tryz.prog 121 #[.string t,.int .i64 (n:Int),.func (.func 120) #[] #[.pointer (some ⟨L,0,none⟩)]] w (TkR w L (redV t.data.toList n)):=by
 have hv:redV t.data.toList n=foV (t.data.toList.drop (rpl t.data.toList i)) n:=by unfold redV redW;rw [hr,hw,hna];rfl
 rw [hv]
 have CR:=hide (rows_any t w hs)
 rw [kR_t hr] at CR
 have hbk:=n2_lt t.data.toList 2
 have CI:=hide (fun a c w (h:RwL w a t.data.toList (n2 t.data.toList 2))=>index_w a t.data.toList (n2 t.data.toList 2) c w (by omega) h)
 have CN:=hide (fun a c w (h:RwL w a t.data.toList (n2 t.data.toList 2))=>index_n a t.data.toList (n2 t.data.toList 2) c w (by omega) h)
 have hw':fstI (fun j=>wiR (rp t.data.toList j) (re t.data.toList j)) (n2 t.data.toList 2)=none:=hw
 have hna':fstI (fun j=>naR (rp t.data.toList j) (re t.data.toList j)) (n2 t.data.toList 2)=some i:=hna
 rw [hw'] at CI
 rw [hna'] at CN
 have hix:ixV none=-1:=rfl
 rw [hix] at CI
 have hix2:ixV (some i)=(i:Int):=rfl
 rw [hix2] at CN
 have hi:=(fstI_get hna').1
 have bp:=n4_lt t.data.toList (8+8 * i)
 have hpl:rpl t.data.toList i=n4 t.data.toList (8+8 * i):=rfl
 have CF:=hide (fun w=>from_any t (rpl t.data.toList i) w hs (by omega))
 have CG:=hide (fun w (h:TkS w L [])=>segs_any L (t.extract (min (rpl t.data.toList i) t.size) t.size) n w (Nat.le_trans (ext_le t _) hs) hn h)
 rw [ext_drop] at CG
 have HS:=hide hS
 have hn':(n:Int)≤4096:=by omega
 generalize foV (t.data.toList.drop (rpl t.data.toList i)) n=RR at *
 generalize t.extract (min (rpl t.data.toList i) t.size) t.size=SX at *
 obtain ⟨K,hK⟩:∃K,n2 t.data.toList 2=K:=⟨_,rfl⟩
 rw [hK] at CR CI CN hi hbk
 have k1:(i:Int) < (K:Int):=by omega
 have k0:(0:Int)≤(i:Int):=by omega
 have kb:(K:Int)≤65535:=by omega
 have HI:=hide hi
 clear hS hr hw hv hw' bp hpl hK hbk hna hna' hix hix2
 go_enter Tryz.func121,Tryz.ntmps121
 go_wp2_with fail
 refine CR.out.mono ?_
 rintro e w1 ⟨a,c,rfl,hr1,hb1⟩
 have HR1:=hide hr1
 have HB1:=hide hb1
 clear hr1 hb1
 go_wp2_with fail
 refine (CI.out _ _ _ HR1.out).mono ?_
 rintro e w2 ⟨rfl,hb2⟩
 have HB2:=hide (HB1.out.trans (hb2.mono HB1.out.size))
 have HR2:=hide (HR1.out.below hb2)
 clear hb2
 go_wp2_with fail
 refine (CN.out _ _ _ HR2.out).mono ?_
 rintro e w3 ⟨rfl,hb3⟩
 have HB3:=hide (HB2.out.trans (hb3.mono HB2.out.size))
 rcases HR2.out.below hb3 with hz | ⟨b,rfl,hbl,hcell⟩
 ·have:=HI.out;omega
 obtain ⟨_,_,z2⟩:=hcell i HI.out
 have HS2:=hide (HS.out.below HB3.out)
 have HF2:=hide (TF.of_below HB3.out (Nat.le_of_lt HS.out.lt))
 generalize ((rpl t.data.toList i:Nat):Int)=PL at *
 clear hcell hb3 HR1 HR2 hi
 go_wp2_with fail
 refine (CF.out _).mono ?_
 rintro e w4 ⟨rfl,hw4⟩
 subst hw4
 go_wp2_with fail
 cases RR with
 | none=>
  refine (CG.out _ HS2.out).mono ?_
  rintro e w4 ⟨rfl,ht⟩
  have HT:=hide (HF2.out.trans ht)
  clear ht
  go_wp2_with fail
  go_ret
  exact ⟨rfl,HT.out⟩
 | some cs=>
  refine (CG.out _ HS2.out).mono ?_
  rintro e w4 ⟨rfl,hk,ht⟩
  have HK:=hide hk
  have HT:=hide (HF2.out.trans ht)
  clear ht hk
  go_wp2_with fail
  go_ret
  exact ⟨rfl,HK.out,HT.out⟩
theorem walk_any (L:Nat) (t:ByteArray) (n:Nat) (w:World) (hs:t.size≤1073741824) (hn:n≤4096) (hS:TkS w L []) :
  Calls Tryz.prog 121 #[.string t,.int .i64 (n:Int),.func (.func 120) #[] #[.pointer (some ⟨L,0,none⟩)]] w (TkR w L (redV t.data.toList n)):=by
 cases hr:rowB t.data.toList
 ·have hv:redV t.data.toList n=none:=by unfold redV;rw [hr];rfl
  have hk:kR t.data.toList=0:=by unfold kR;rw [hr];rfl
  rw [hv]
  exact walk_none L t n w hs hS (by rw [hk];exact fstI_none fun j hj=>by omega) (by rw [hk];exact fstI_none fun j hj=>by omega) (by omega)
 ·cases hw:wiI t.data.toList with
  | some i=>exact walk_wide L t n i w hs hn hS hr hw
  | none=>
   cases hna:naI t.data.toList with
   | some i=>exact walk_narrow L t n i w hs hn hS hr hw hna
   | none=>
    have hv:redV t.data.toList n=none:=by unfold redV redW;rw [hr,hw,hna];rfl
    have hb:=n2_lt t.data.toList 2
    rw [hv]
    exact walk_none L t n w hs hS (by rw [kR_t hr];exact hw) (by rw [kR_t hr];exact hna) (by rw [kR_t hr];omega)
theorem read_any (t:ByteArray) (n:Nat) (w:World) (hs:t.size≤1073741824) (h1:1≤n) (h2:n≤4096) :
  Calls Tryz.prog 79 #[.string t,.int .i64 (n:Int)] w (RdR w (redV t.data.toList n)):=
 read_by t n w h1 h2 _ fun w L h=>walk_any L t n w hs h2 h
end Go.Proofs.YtpaadbnlhapdbaaGreatDoor.C11
namespace Go.Proofs.YtpaadbnlhapdbaaGreatDoor.C11
open Go.ChangeShapes Go.WideShapes Go.RowKit Go.Deep
set_option linter.unusedVariables false
theorem grpF_bd {a g:Nat} {cs:List Ch} (h:BD cs):∀(j:Nat),g+j≤4294967296→∀{cs2},grpF a g cs j=some cs2→BD cs2
 | 0,_,cs2,e=>by cases e;exact h
 | j+1,hj,cs2,e=>by
  rw [grpF] at e
  obtain ⟨x,h1,h2⟩:=Option.bind_eq_some_iff.1 e
  exact (grpF_bd h j (by omega) h1).stP (by omega) (by omega) h2
theorem accG_bd {s:List UInt8} {n:Nat} (hn:n≤4096):∀(k:Nat),(∀i,i < k→okG s n i=true)→∀{cs},accG s k=some cs→BD cs
 | 0,_,cs,e=>by cases e;exact BD.nil
 | k+1,hk,cs,e=>by
  rw [accG] at e
  obtain ⟨x,h1,h2⟩:=Option.bind_eq_some_iff.1 e
  have ho:=hk k (by omega)
  unfold okG at ho
  have ho2:=of_decide_eq_true ho
  exact grpF_bd (accG_bd hn k (fun i hi=>hk i (by omega)) h1) _ (by omega) h2
theorem twV_bd {s:List UInt8} {n:Nat} (hn:n≤4096) {cs:List Ch} (h:twV s n=some cs):BD cs:=by
 unfold twV at h
 split at h
 ·rename_i hh
  rw [Bool.and_eq_true] at hh
  exact accG_bd hn _ (twA_iff.1 hh.2) h
 ·cases h
theorem accS_bd {s:List UInt8} {m n:Nat} (hn:n≤4096):∀(k:Nat),(∀i,i < k→okS s m i=true)→∀{cs},accS s m n k=some cs→BD cs
 | 0,_,cs,e=>by cases e;exact BD.nil
 | k+1,hk,cs,e=>by
  rw [accS] at e
  obtain ⟨x,h1,h2⟩:=Option.bind_eq_some_iff.1 e
  have ho:=hk k (by omega)
  unfold okS at ho
  have ho2:=of_decide_eq_true ho
  have hb:sb s k < 65536:=n2_lt s _
  rw [segF_eq] at h2
  exact segG_bd (accS_bd hn k (fun i hi=>hk i (by omega)) h1) hn (by omega) _ (by omega) h2
theorem foV_bd {s:List UInt8} {n:Nat} (hn:n≤4096) {cs:List Ch} (h:foV s n=some cs):BD cs:=by
 unfold foV foW at h
 split at h
 ·split at h
  ·rename_i hh
   exact accS_bd hn _ (foA_iff.1 hh).1 h
  ·cases h
 ·cases h
theorem redV_bd {l:List UInt8} {n:Nat} (hn:n≤4096) {cs:List Ch} (h:redV l n=some cs):BD cs:=by
 unfold redV redW at h
 split at h
 ·split at h
  ·exact twV_bd hn h
  ·split at h
   ·exact foV_bd hn h
   ·cases h
 ·cases h
end Go.Proofs.YtpaadbnlhapdbaaGreatDoor.C11
namespace Go.Proofs.YtpaadbnlhapdbaaGreatDoor.C11
open Go.RowKit Go.Deep
set_option linter.unusedVariables false
set_option maxRecDepth 8000 in
set_option maxHeartbeats 4000000 in
theorem rgood_any (a:Option Addr) (cs:List Ch) (len cap:Nat) (n:Int) (w:World) (hl:cs.length=len) (hm:len≤1073741824) (hn:R64 n) (hL:CLst w a cs) :
  Calls Tryz.prog 49 #[.slice a len cap,.int .i64 n] w fun e w'=>e=.returned (.bool (gooB cs n))∧Below w.heap.size w w':=by
 have hm':(len:Int)≤1073741824:=by omega
 by_cases hlong:len≤4096
 case neg=>
  have E:=hide (gooB_long (cs:=cs) (n:=n) (by omega))
  have t:(4096:Int) < (len:Int):=by omega
  go_enter Tryz.func49,Tryz.ntmps49
  go_wp2_with fail
  go_ret
  exact ⟨by rw [E.out];rfl,Below.refl _ _⟩
 have t:¬(4096:Int) < (len:Int):=by omega
 have HL:=hide hL
 have HN:=hide hl
 have HG:=hide hn
 clear hL hl hm hn
 go_enter Tryz.func49,Tryz.ntmps49
 go_wp2_with fail
 go_loopw [5] (fun vi wr=>∃(k:Nat),vi=.int .i64 k∧Hid (k≤len∧(∀j,j < k→okB cs n j=true)∧Below w.heap.size w wr)) (fun vi _=>len - (intOf vi).toNat)
 case atStart=>exact ⟨0,rfl,hide ⟨by omega,fun j hj=>by omega,Below.refl _ _⟩⟩
 case round=>
  obtain ⟨k,rfl,HV⟩:=hrel
  obtain ⟨hk,hv,hb⟩:=HV.out
  have hk0:(0:Int)≤(k:Int):=by omega
  have HB:=hide hb
  have HF:=hide hv
  clear HV hv
  by_cases hlt:k < len
  case neg=>
   have hlt':¬(k:Int) < (len:Int):=by omega
   have E:Hid (gooB cs n=true):=hide (gooB_iff.2 ⟨by have:=HN.out;omega,fun i hi=>HF.out i (by have:=HN.out;omega)⟩)
   clear HF hb
   go_wp2_with fail
   go_ret
   exact ⟨by rw [E.out];rfl,HB.out⟩
  have hlt':(k:Int) < (len:Int):=by omega
  rcases HL.out with hz | ⟨b,o,rfl,hbl,hcell⟩
  ·have:=HN.out;rw [hz] at this;simp at this;omega
  obtain ⟨z0,z1,z2⟩:=hcell k (by have:=HN.out;omega)
  rw [←hb.cell (p:=⟨b,_,none⟩) hbl] at z0 z1 z2
  have zb:b < wr.heap.size:=Nat.lt_of_lt_of_le hbl hb.size
  have EB:=hide (show okB cs n k=(fitB (cs.getD k c0) n && (decide (k=0) || nxB (cs.getD (k - 1) c0) (cs.getD k c0))) from rfl)
  have ENO:=hide (fun h=>gooB_no (cs:=cs) (n:=n) (i:=k) (by have:=HN.out;omega) h)
  have EYES:Hid (okB cs n k=true→∀j,j < k+1→okB cs n j=true):=hide (fun h j hj=>by
   rcases Nat.lt_or_ge j k with h' | h'
   ·exact HF.out j h'
   ·obtain rfl:j=k:=by omega
    exact h)
  obtain ⟨x,hx⟩:∃x,cs.getD k c0=x:=⟨_,rfl⟩
  rw [hx] at z0 z1 z2 EB
  obtain ⟨f,l,g⟩:=x
  simp only at z0 z1 z2
  have HB2:=hide (HB.out.alloc HB.out.size (.cells #[.int .i64 f,.int .i64 l,.int .i64 g] 68))
  have EF:Hid (fitB ⟨f,l,g⟩ n=false→gooB cs n=false):=hide (fun h=>ENO.out (by rw [EB.out,h];rfl))
  obtain ⟨n0,n1⟩:=HG.out
  by_cases cc0:l < f
  ·have E:=hide (EF.out (fitB_f.2 (by simp only;omega)))
   clear EB ENO EYES EF HF hcell hx hb n0 n1
   go_wp2_with fail
   go_ret
   exact ⟨by rw [E.out];rfl,HB2.out⟩
  have d0:decide (l < f)=false:=by simp;omega
  by_cases cc1:f < 0
  ·have E:=hide (EF.out (fitB_f.2 (by simp only;omega)))
   clear EB ENO EYES EF HF hcell hx hb n0 n1
   go_wp2_with fail
   go_ret
   exact ⟨by rw [E.out];rfl,HB2.out⟩
  have d1:decide (f < 0)=false:=by simp;omega
  by_cases cc2:1114111 < l
  ·have E:=hide (EF.out (fitB_f.2 (by simp only;omega)))
   clear EB ENO EYES EF HF hcell hx hb n0 n1
   go_wp2_with fail
   go_ret
   exact ⟨by rw [E.out];rfl,HB2.out⟩
  have d2:decide (1114111 < l)=false:=by simp;omega
  by_cases cc3:f≤57343
  case pos=>
   by_cases cc4:55296≤l
   ·have E:=hide (EF.out (fitB_f.2 (by simp only;omega)))
    clear EB ENO EYES EF HF hcell hx hb n0 n1
    go_wp2_with fail
    go_ret
    exact ⟨by rw [E.out];rfl,HB2.out⟩
   have d3:decide (f≤57343)=true:=by simp;omega
   have d4:decide (55296≤l)=false:=by simp;omega
   by_cases cc5:g < 1
   ·have E:=hide (EF.out (fitB_f.2 (by simp only;omega)))
    clear EB ENO EYES EF HF hcell hx hb n0 n1
    go_wp2_with fail
    go_ret
    exact ⟨by rw [E.out];rfl,HB2.out⟩
   have d5:decide (g < 1)=false:=by simp;omega
   by_cases cc6:n≤g
   ·have E:=hide (EF.out (fitB_f.2 (by simp only;omega)))
    clear EB ENO EYES EF HF hcell hx hb n0 n1
    go_wp2_with fail
    go_ret
    exact ⟨by rw [E.out];rfl,HB2.out⟩
   have d6:decide (n≤g)=false:=by simp;omega
   have m1:wrap64 (l - f)=l - f:=by unfold wrap64;omega
   have m2:wrap64 (n - g)=n - g:=by unfold wrap64;omega
   by_cases cc7:n - g≤l - f
   ·have E:=hide (EF.out (fitB_f.2 (by simp only;omega)))
    clear EB ENO EYES EF HF hcell hx hb n0 n1
    go_wp2_with fail
    go_ret
    exact ⟨by rw [E.out];rfl,HB2.out⟩
   have d7:decide (n - g≤l - f)=false:=by simp;omega
   have EG:Hid (fitB ⟨f,l,g⟩ n=true):=hide (fitB_t.2 (by simp only;omega))
   by_cases q0:k=0
   ·have E:=hide (EYES.out (by rw [EB.out,EG.out,decide_eq_true q0];rfl))
    clear EB ENO EYES EF HF hcell hx hb n0 n1
    subst q0
    simp only [Nat.zero_mul,Nat.add_zero] at z0 z1 z2
    go_wp2_with fail
    go_quiet (fail)
    go_wp2_with fail
    go_roundw
    case rel=>exact ⟨1,by go_num,hide ⟨by omega,E.out,below_drewN HB2.out _⟩⟩
    case measure=>simp [intOf];omega
   obtain ⟨j,hj⟩:∃j,k=j+1:=⟨k - 1,by omega⟩
   obtain ⟨y0,y1,y2⟩:=hcell j (by have:=HN.out;omega)
   have hok:=HF.out j (by omega)
   unfold okB at hok
   rw [Bool.and_eq_true] at hok
   rw [show k - 1=j by omega,decide_eq_false q0,Bool.false_or] at EB
   obtain ⟨y,hy⟩:∃y,cs.getD j c0=y:=⟨_,rfl⟩
   rw [hy] at y0 y1 y2 EB hok
   obtain ⟨f',l',g'⟩:=y
   simp only at y0 y1 y2
   have hfit:=fitB_t.1 hok.1
   simp only at hfit
   obtain ⟨p0,p1,p2,_,p4,p5,p6⟩:=hfit
   have EV:Hid (okB cs n k=!(decide (f≤l') || goB ⟨f',l',g'⟩ f g)):=hide (by rw [EB.out,EG.out];rfl)
   have k1:IntKind.i64.wrap ((k:Int) - 1)=(j:Int):=by rw [IntKind.wrap_i64];omega
   have k2:decide ((0:Int) < (k:Int))=true:=by simp;omega
   have k2':(0:Int) < (k:Int):=by omega
   have k2n:0 < k:=by omega
   have j0:(0:Int)≤(j:Int):=by omega
   have j1:(j:Int) < (len:Int):=by omega
   have HK:=hide hj
   rw [←HB2.out.cell (p:=⟨b,_,none⟩) hbl] at y0 y1 y2
   have zb1:b < (wr.alloc (.cells #[.int .i64 f,.int .i64 l,.int .i64 g] 68)).heap.size:=Nat.lt_of_lt_of_le hbl HB2.out.size
   by_cases q2:f≤l'
   ·have E:=hide (ENO.out (by rw [EV.out,decide_eq_true q2];rfl))
    clear EB ENO EYES EF EV HF hcell hx hb n0 n1 hy hok q0 p0 p1 p2 p4 p5 p6 hj
    go_wp2_with fail
    go_quiet (fail)
    go_wp2_with fail
    go_ret
    exact ⟨by rw [E.out];rfl,below_drewN HB2.out _⟩
   have q2':decide (f≤l')=false:=by simp;omega
   have w1:IntKind.i64.wrap (l'+1)=l'+1:=by rw [IntKind.wrap_i64];omega
   by_cases q3:f=l'+1
   ·obtain ⟨A,hA⟩:∃A,IntKind.i64.wrap (g'+l')=A:=⟨_,rfl⟩
    obtain ⟨B,hBB⟩:∃B,g'+l' - f'=B:=⟨_,rfl⟩
    have w2:IntKind.i64.wrap (A - f')=B:=by rw [←hA,←hBB,IntKind.wrap_i64,IntKind.wrap_i64];omega
    obtain ⟨C,hC⟩:∃C,B+1=C:=⟨_,rfl⟩
    have w3:IntKind.i64.wrap (B+1)=C:=by rw [←hC,IntKind.wrap_i64];omega
    have q3':(f == l'+1)=true:=by simpa using q3
    have EQ:Hid (okB cs n k=!(g == C)):=hide (by
     rw [EV.out,decide_eq_false q2,Bool.false_or]
     congr 1
     unfold goB
     rw [Bool.eq_iff_iff,decide_eq_true_iff,beq_iff_eq]
     exact ⟨fun h=>by have:=h.2;simp only at this;omega,fun h=>⟨q3,by simp only;omega⟩⟩)
    cases q4:(g == C)
    ·have E:=hide (EYES.out (by rw [EQ.out,q4];rfl))
     clear EB ENO EYES EF EV EQ HF hcell hx hb n0 n1 hy hok q0 p0 p1 p2 p4 p5 p6 hj q2 q3 hBB hC
     go_wp2_with fail
     go_quiet (fail)
     go_wp2_with fail
     go_roundw
     case rel=>exact ⟨k+1,by go_num,hide ⟨by omega,E.out,below_drewN HB2.out _⟩⟩
     case measure=>simp [intOf];omega
    ·have E:=hide (ENO.out (by rw [EQ.out,q4];rfl))
     clear EB ENO EYES EF EV EQ HF hcell hx hb n0 n1 hy hok q0 p0 p1 p2 p4 p5 p6 hj q2 q3 hBB hC
     go_wp2_with fail
     go_quiet (fail)
     go_wp2_with fail
     go_ret
     exact ⟨by rw [E.out];rfl,below_drewN HB2.out _⟩
   ·have E:=hide (EYES.out (by rw [EV.out,decide_eq_false q2,goB_f.2 (fun h=>q3 h.1)];rfl))
    have q3':(f == l'+1)=false:=by simpa using q3
    clear EB ENO EYES EF EV HF hcell hx hb n0 n1 hy hok q0 p0 p1 p2 p4 p5 p6 hj q2 q3
    go_wp2_with fail
    go_quiet (fail)
    go_wp2_with fail
    go_roundw
    case rel=>exact ⟨k+1,by go_num,hide ⟨by omega,E.out,below_drewN HB2.out _⟩⟩
    case measure=>simp [intOf];omega
  case neg=>
   have d3:decide (f≤57343)=false:=by simp;omega
   by_cases cc5:g < 1
   ·have E:=hide (EF.out (fitB_f.2 (by simp only;omega)))
    clear EB ENO EYES EF HF hcell hx hb n0 n1
    go_wp2_with fail
    go_ret
    exact ⟨by rw [E.out];rfl,HB2.out⟩
   have d5:decide (g < 1)=false:=by simp;omega
   by_cases cc6:n≤g
   ·have E:=hide (EF.out (fitB_f.2 (by simp only;omega)))
    clear EB ENO EYES EF HF hcell hx hb n0 n1
    go_wp2_with fail
    go_ret
    exact ⟨by rw [E.out];rfl,HB2.out⟩
   have d6:decide (n≤g)=false:=by simp;omega
   have m1:wrap64 (l - f)=l - f:=by unfold wrap64;omega
   have m2:wrap64 (n - g)=n - g:=by unfold wrap64;omega
   by_cases cc7:n - g≤l - f
   ·have E:=hide (EF.out (fitB_f.2 (by simp only;omega)))
    clear EB ENO EYES EF HF hcell hx hb n0 n1
    go_wp2_with fail
    go_ret
    exact ⟨by rw [E.out];rfl,HB2.out⟩
   have d7:decide (n - g≤l - f)=false:=by simp;omega
   have EG:Hid (fitB ⟨f,l,g⟩ n=true):=hide (fitB_t.2 (by simp only;omega))
   by_cases q0:k=0
   ·have E:=hide (EYES.out (by rw [EB.out,EG.out,decide_eq_true q0];rfl))
    clear EB ENO EYES EF HF hcell hx hb n0 n1
    subst q0
    simp only [Nat.zero_mul,Nat.add_zero] at z0 z1 z2
    go_wp2_with fail
    go_quiet (fail)
    go_wp2_with fail
    go_roundw
    case rel=>exact ⟨1,by go_num,hide ⟨by omega,E.out,below_drewN HB2.out _⟩⟩
    case measure=>simp [intOf];omega
   obtain ⟨j,hj⟩:∃j,k=j+1:=⟨k - 1,by omega⟩
   obtain ⟨y0,y1,y2⟩:=hcell j (by have:=HN.out;omega)
   have hok:=HF.out j (by omega)
   unfold okB at hok
   rw [Bool.and_eq_true] at hok
   rw [show k - 1=j by omega,decide_eq_false q0,Bool.false_or] at EB
   obtain ⟨y,hy⟩:∃y,cs.getD j c0=y:=⟨_,rfl⟩
   rw [hy] at y0 y1 y2 EB hok
   obtain ⟨f',l',g'⟩:=y
   simp only at y0 y1 y2
   have hfit:=fitB_t.1 hok.1
   simp only at hfit
   obtain ⟨p0,p1,p2,_,p4,p5,p6⟩:=hfit
   have EV:Hid (okB cs n k=!(decide (f≤l') || goB ⟨f',l',g'⟩ f g)):=hide (by rw [EB.out,EG.out];rfl)
   have k1:IntKind.i64.wrap ((k:Int) - 1)=(j:Int):=by rw [IntKind.wrap_i64];omega
   have k2:decide ((0:Int) < (k:Int))=true:=by simp;omega
   have k2':(0:Int) < (k:Int):=by omega
   have k2n:0 < k:=by omega
   have j0:(0:Int)≤(j:Int):=by omega
   have j1:(j:Int) < (len:Int):=by omega
   have HK:=hide hj
   rw [←HB2.out.cell (p:=⟨b,_,none⟩) hbl] at y0 y1 y2
   have zb1:b < (wr.alloc (.cells #[.int .i64 f,.int .i64 l,.int .i64 g] 68)).heap.size:=Nat.lt_of_lt_of_le hbl HB2.out.size
   by_cases q2:f≤l'
   ·have E:=hide (ENO.out (by rw [EV.out,decide_eq_true q2];rfl))
    clear EB ENO EYES EF EV HF hcell hx hb n0 n1 hy hok q0 p0 p1 p2 p4 p5 p6 hj
    go_wp2_with fail
    go_quiet (fail)
    go_wp2_with fail
    go_ret
    exact ⟨by rw [E.out];rfl,below_drewN HB2.out _⟩
   have q2':decide (f≤l')=false:=by simp;omega
   have w1:IntKind.i64.wrap (l'+1)=l'+1:=by rw [IntKind.wrap_i64];omega
   by_cases q3:f=l'+1
   ·obtain ⟨A,hA⟩:∃A,IntKind.i64.wrap (g'+l')=A:=⟨_,rfl⟩
    obtain ⟨B,hBB⟩:∃B,g'+l' - f'=B:=⟨_,rfl⟩
    have w2:IntKind.i64.wrap (A - f')=B:=by rw [←hA,←hBB,IntKind.wrap_i64,IntKind.wrap_i64];omega
    obtain ⟨C,hC⟩:∃C,B+1=C:=⟨_,rfl⟩
    have w3:IntKind.i64.wrap (B+1)=C:=by rw [←hC,IntKind.wrap_i64];omega
    have q3':(f == l'+1)=true:=by simpa using q3
    have EQ:Hid (okB cs n k=!(g == C)):=hide (by
     rw [EV.out,decide_eq_false q2,Bool.false_or]
     congr 1
     unfold goB
     rw [Bool.eq_iff_iff,decide_eq_true_iff,beq_iff_eq]
     exact ⟨fun h=>by have:=h.2;simp only at this;omega,fun h=>⟨q3,by simp only;omega⟩⟩)
    cases q4:(g == C)
    ·have E:=hide (EYES.out (by rw [EQ.out,q4];rfl))
     clear EB ENO EYES EF EV EQ HF hcell hx hb n0 n1 hy hok q0 p0 p1 p2 p4 p5 p6 hj q2 q3 hBB hC
     go_wp2_with fail
     go_quiet (fail)
     go_wp2_with fail
     go_roundw
     case rel=>exact ⟨k+1,by go_num,hide ⟨by omega,E.out,below_drewN HB2.out _⟩⟩
     case measure=>simp [intOf];omega
    ·have E:=hide (ENO.out (by rw [EQ.out,q4];rfl))
     clear EB ENO EYES EF EV EQ HF hcell hx hb n0 n1 hy hok q0 p0 p1 p2 p4 p5 p6 hj q2 q3 hBB hC
     go_wp2_with fail
     go_quiet (fail)
     go_wp2_with fail
     go_ret
     exact ⟨by rw [E.out];rfl,below_drewN HB2.out _⟩
   ·have E:=hide (EYES.out (by rw [EV.out,decide_eq_false q2,goB_f.2 (fun h=>q3 h.1)];rfl))
    have q3':(f == l'+1)=false:=by simpa using q3
    clear EB ENO EYES EF EV HF hcell hx hb n0 n1 hy hok q0 p0 p1 p2 p4 p5 p6 hj q2 q3
    go_wp2_with fail
    go_quiet (fail)
    go_wp2_with fail
    go_roundw
    case rel=>exact ⟨k+1,by go_num,hide ⟨by omega,E.out,below_drewN HB2.out _⟩⟩
    case measure=>simp [intOf];omega
end Go.Proofs.YtpaadbnlhapdbaaGreatDoor.C11
namespace Go.Proofs.YtpaadbnlhapdbaaGreatDoor.C11
open Go.RowKit Go.Deep
set_option linter.unusedVariables false
set_option linter.unusedSimpArgs false
def AdR (w:World) (B:Nat) (R:Option (List Ch)) (e:Ending) (w':World):Prop:=match R with
 | some cs=>∃v,e=.returned (.tuple #[v,.bool true])∧CRow w' B v cs∧Below B w w'
 | none=>e=.returned (.tuple #[.slice none 0 0,.bool false])∧Below B w w'
set_option maxRecDepth 8000 in
set_option maxHeartbeats 2000000 in
theorem radd_any (B:Nat) (v:Value) (c g:Int) (cs:List Ch) (w:World) (hr:CRow w B v cs) (hB:B≤w.heap.size) (bd:BD cs) (g0:0≤g) (g1:g≤4294967296) (hc0:0≤c) (hc1:c≤1114111) :
  Calls Tryz.prog 82 #[v,.int .i64 c,.int .i64 g] w (AdR w B (stP cs c g)):=by
 have CI:=hide (ris_any c)
 by_cases hz:g=0
 ·subst hz
  have hv:stP cs c 0=some cs:=by unfold stP;split <;> simp [addC_zero]
  rw [hv]
  have HR:=hide hr
  clear hr bd hv
  go_enter Tryz.func82,Tryz.ntmps82
  go_wp2_with fail
  go_ret2
  exact ⟨_,rfl,HR.out,Below.refl _ _⟩
 have hz':(g == 0)=false:=by simpa using hz
 cases hp:isP c
 ·have hv:stP cs c g=some cs:=by unfold stP;rw [hp];rfl
  rw [hv]
  rw [hp] at CI
  have HR:=hide hr
  clear hr bd hv hp hz
  go_enter Tryz.func82,Tryz.ntmps82
  go_wp2_with fail
  refine (CI.out _).mono ?_
  rintro e w1 ⟨rfl,hw⟩
  subst hw
  go_wp2_with fail
  go_ret2
  exact ⟨_,rfl,HR.out,Below.refl _ _⟩
 have hv:stP cs c g=addC cs c g:=by unfold stP;rw [hp];rfl
 rw [hv]
 rw [hp] at CI
 clear hv hp
 rcases List.eq_nil_or_concat cs with rfl | ⟨ini,x,rfl⟩
 ·rw [addC_nil c g hz]
  obtain ⟨a,cap,rfl⟩:=hr.emp
  have HR:=hide hr
  have HBB:=hide hB
  clear hr bd hz hB
  go_enter Tryz.func82,Tryz.ntmps82
  go_wp2_with fail
  refine (CI.out _).mono ?_
  rintro e w1 ⟨rfl,hw⟩
  replace hw:=hw.symm
  subst hw
  go_wp2_with fail
  go_quiet (fail)
  obtain ⟨v2,w2,hrun,hr2,hb2,_,_⟩:=app_c (W:=w.drewN nq) (B:=B) c c g HR.out HBB.out (by simp)
  rw [List.nil_append] at hr2
  have HRUN:=hide hrun
  have HR2:=hide hr2
  have HB2:=hide (show Below B w w2 from ⟨hb2.os,hb2.tape,hb2.output,hb2.size,hb2.block⟩)
  clear hrun hr2 hb2
  go_wp2_with (at_builtin;refine Lib.wpList_append_run _ rfl _ _ _ _ rfl _ _ rfl rfl _ _ HRUN.out ?_)
  go_ret2
  exact ⟨_,rfl,HR2.out,HB2.out⟩
 rw [List.concat_eq_append] at *
 obtain ⟨l1,x1,x2,x3,x4,x5⟩:=bd.last
 obtain ⟨gr,cap,rfl,hgr,hgl⟩:=hr.shape (by simp)
 have hlen:(ini++[x]).length=ini.length+1:=by simp
 obtain ⟨⟨d0,d1,d2⟩,df⟩:=hr.cell rfl ini.length (by simp)
 have hx:(ini++[x]).getD ini.length c0=x:=by simp [List.getD_eq_getElem?_getD]
 rw [hx] at d0 d1 d2
 have HR:=hide hr
 have HBB:=hide hB
 have n1:(ini.length:Int)≤4095:=by omega
 have n0:(0:Int)≤(ini.length:Int):=by omega
 have w1:IntKind.i64.wrap (c - 1)=c - 1:=by rw [IntKind.wrap_i64];omega
 have w2:IntKind.i64.wrap (x.g+x.l)=x.g+x.l:=by rw [IntKind.wrap_i64];omega
 have w3:IntKind.i64.wrap (x.g+x.l - x.f)=x.g+x.l - x.f:=by rw [IntKind.wrap_i64];omega
 have w4:IntKind.i64.wrap (x.g+x.l - x.f+1)=x.g+x.l - x.f+1:=by rw [IntKind.wrap_i64];omega
 have HAD:=hide (And.intro (addC_new ini x c g hz) (addC_full ini x c g hz))
 have HAG:=hide (addC_go ini x c g hz)
 have HGB:=hide (@goB_f x c g)
 have HGT:=hide (@goB_t x c g)
 rw [hlen]
 obtain ⟨N,hN⟩:∃N,ini.length=N:=⟨_,rfl⟩
 have HNN:=hide hN
 rw [hN] at d0 d1 d2 df n1 n0 HAD l1 ⊢
 obtain ⟨xf,xl,xg⟩:=x
 simp only at d0 d1 d2 w2 w3 w4 HGB HGT x1 x2 x3 x4 x5
 generalize addC (ini++[⟨xf,xl,xg⟩]) c g=RR at HAD HAG ⊢
 generalize goB ⟨xf,xl,xg⟩ c g=GO at *
 have hful:(((N:Int)+1 == 4096)=true∧¬N+1 < 4096)∨(((N:Int)+1 == 4096)=false∧N+1 < 4096):=by
  by_cases h:N+1=4096
  ·exact Or.inl ⟨by simp;omega,by omega⟩
  ·exact Or.inr ⟨by simp;omega,by omega⟩
 have HFU:=hide hful
 clear hr bd hz hB hlen hx hN x1 x2 x3 x4 x5 hful
 by_cases t1:xl=c - 1
 ·have t1':(xl == c - 1)=true:=by simpa using t1
  by_cases t2:xg+xl - xf+1=g
  ·have t2':(xg+xl - xf+1 == g)=true:=by simpa using t2
   have E:=hide (HAG.out (HGT.out.2 ⟨by omega,by omega⟩))
   clear t1 t2 HAD HAG HGB HGT HFU
   go_enter Tryz.func82,Tryz.ntmps82
   go_wp2_with fail
   refine (CI.out _).mono ?_
   rintro e wz ⟨rfl,hw⟩
   replace hw:=hw.symm
   subst hw
   go_wp2_with fail
   go_quiet (fail)
   have HS:=hide (show CRow (w.setCell ⟨gr,N * 3+1,none⟩ (.int .i64 c)) B (.slice (some ⟨gr,0,none⟩) (N+1) cap) (ini++[⟨xf,c,xg⟩]) by
    have:=HR.out.stored ⟨xf,xl,xg⟩ c rfl
    rw [HNN.out] at this
    have e:(ini++[(⟨xf,xl,xg⟩:Ch)]).length=N+1:=by rw [List.length_append,HNN.out];rfl
    rw [e] at this
    exact this)
   have HT:=hide (show Below B w (w.setCell ⟨gr,N * 3+1,none⟩ (.int .i64 c)) from (Below.refl B w).setCell (p:=⟨gr,N * 3+1,none⟩) hgr _)
   go_wp2_with fail
   go_ret2
   rw [E.out]
   exact ⟨_,rfl,HS.out,HT.out.os,HT.out.tape,HT.out.output,HT.out.size,HT.out.block⟩
  ·have t2':(xg+xl - xf+1 == g)=false:=by simpa using t2
   have E:=hide (HGB.out.2 (fun h=>t2 (by omega)))
   clear t1 t2 HAG HGB HGT
   go_enter Tryz.func82,Tryz.ntmps82
   go_wp2_with fail
   refine (CI.out _).mono ?_
   rintro e wz ⟨rfl,hw⟩
   replace hw:=hw.symm
   subst hw
   go_wp2_with fail
   go_quiet (fail)
   rcases HFU.out with ⟨f1,f2⟩ | ⟨f1,f2⟩
   ·have E2:=hide (HAD.out.2 E.out f2)
    clear f2 HFU HAD
    go_wp2_with fail
    go_ret2
    rw [E2.out]
    exact ⟨rfl,below_drewN (Below.refl _ _) _⟩
   ·have E2:=hide (HAD.out.1 E.out f2)
    have hl:(ini++[(⟨xf,xl,xg⟩:Ch)]).length=N+1:=by rw [List.length_append,HNN.out];rfl
    obtain ⟨v2,w5,hrun,hr2,hb2,_,_⟩:=app_c (W:=w.drewN nq) (B:=B) c c g HR.out HBB.out (by rw [hl];omega)
    rw [hl] at hrun
    have HRUN:=hide hrun
    have HR2:=hide hr2
    have HB2:=hide (show Below B w w5 from ⟨hb2.os,hb2.tape,hb2.output,hb2.size,hb2.block⟩)
    clear hrun hr2 hb2 f2 HFU HAD hl
    go_wp2_with (at_builtin;refine Lib.wpList_append_run _ rfl _ _ _ _ rfl _ _ rfl rfl _ _ HRUN.out ?_)
    go_ret2
    rw [E2.out]
    exact ⟨_,rfl,HR2.out,HB2.out⟩
 ·have t1':(xl == c - 1)=false:=by simpa using t1
  have E:=hide (HGB.out.2 (fun h=>t1 (by omega)))
  clear t1 HAG HGB HGT
  go_enter Tryz.func82,Tryz.ntmps82
  go_wp2_with fail
  refine (CI.out _).mono ?_
  rintro e wz ⟨rfl,hw⟩
  replace hw:=hw.symm
  subst hw
  go_wp2_with fail
  go_quiet (fail)
  rcases HFU.out with ⟨f1,f2⟩ | ⟨f1,f2⟩
  ·have E2:=hide (HAD.out.2 E.out f2)
   clear f2 HFU HAD
   go_wp2_with fail
   go_ret2
   rw [E2.out]
   exact ⟨rfl,below_drewN (Below.refl _ _) _⟩
  ·have E2:=hide (HAD.out.1 E.out f2)
   have hl:(ini++[(⟨xf,xl,xg⟩:Ch)]).length=N+1:=by rw [List.length_append,HNN.out];rfl
   obtain ⟨v2,w5,hrun,hr2,hb2,_,_⟩:=app_c (W:=w.drewN nq) (B:=B) c c g HR.out HBB.out (by rw [hl];omega)
   rw [hl] at hrun
   have HRUN:=hide hrun
   have HR2:=hide hr2
   have HB2:=hide (show Below B w w5 from ⟨hb2.os,hb2.tape,hb2.output,hb2.size,hb2.block⟩)
   clear hrun hr2 hb2 f2 HFU HAD hl
   go_wp2_with (at_builtin;refine Lib.wpList_append_run _ rfl _ _ _ _ rfl _ _ rfl rfl _ _ HRUN.out ?_)
   go_ret2
   rw [E2.out]
   exact ⟨_,rfl,HR2.out,HB2.out⟩
def U2R (w:World) (l:List UInt8) (N k:Nat) (e:Ending) (w':World):Prop:=∃y:Nat,e=.returned (.int .i64 (y:Int))∧y≤65535∧(k+2≤N→y=n2 l k)∧∃n,w'=w.drewN n
theorem ru2_z (s:ByteArray) (k:Nat) (z:Int) (w:World) (hz:z=(k:Int)) (hm:s.size≤1073741824) (hk:k≤1073741824) :
  Calls Tryz.prog 37 #[.string s,.int .i64 z] w (U2R w s.data.toList s.size k):=by
 by_cases h:k+2≤s.size
 ·refine (ru2_any s k z w hz h hm).mono ?_
  rintro e w' ⟨h1,h2⟩
  exact ⟨_,h1,by have:=n2_lt s.data.toList k;omega,fun _=>rfl,h2⟩
 ·subst hz
  have h0:¬(k:Int) < 0:=by omega
  have h1:(s.size:Int) - 2 < (k:Int):=by omega
  have h2:(s.size:Int)≤1073741824:=by omega
  have h3:(0:Int)≤(s.size:Int):=by omega
  have HH:=hide h
  clear h
  go_enter Tryz.func37,Tryz.ntmps37
  go_wp2_with fail
  go_ret
  exact ⟨0,rfl,by omega,fun h=>absurd h HH.out,0,rfl⟩
def U4R (w:World) (l:List UInt8) (N k:Nat) (e:Ending) (w':World):Prop:=∃y:Nat,e=.returned (.int .i64 (y:Int))∧y≤4294967295∧(k+4≤N→y=n4 l k)∧∃n,w'=w.drewN n
theorem ru4_z (s:ByteArray) (k:Nat) (z:Int) (w:World) (hz:z=(k:Int)) (hm:s.size≤1073741824) (hk:k≤1000000000) :
  Calls Tryz.prog 39 #[.string s,.int .i64 z] w (U4R w s.data.toList s.size k):=by
 subst hz
 have C1:=hide (fun z w (hz:z=(k:Int))=>ru2_z s k z w hz hm (by omega))
 have C2:=hide (fun z w (hz:z=((k+2:Nat):Int))=>ru2_z s (k+2) z w hz hm (by omega))
 have k0:(0:Int)≤(k:Int):=by omega
 have k1:(k:Int)≤1000000000:=by omega
 clear hm hk
 go_enter Tryz.func39,Tryz.ntmps39
 go_wp2_with fail
 refine (C1.out _ _ rfl).mono ?_
 rintro e wy ⟨A,rfl,a1,a2,m1,hy⟩
 subst wy
 have HA2:=hide a2
 have a1':(A:Int)≤65535:=by omega
 have a0':(0:Int)≤(A:Int):=by omega
 clear a2
 go_wp2_with fail
 refine (C2.out _ _ (by omega)).mono ?_
 rintro e wy ⟨B,rfl,b1,b2,m2,hy⟩
 subst wy
 have HB2:=hide b2
 have ho:=or_two (A:Int) (B:Int) (by omega) (by omega) (by omega) (by omega)
 obtain ⟨R,hR⟩:∃R:Nat,(R:Int)=(A:Int) * 65536+(B:Int):=⟨A * 65536+B,by omega⟩
 rw [←hR] at ho
 have HR:=hide hR
 have HAB:=hide (And.intro a1 b1)
 clear b2 hR a1 b1
 go_wp2_with fail
 go_ret
 exact ⟨R,rfl,by have:=HR.out;have:=HAB.out;omega,fun h=>by
  have h1:=HA2.out (by omega)
  have h2:=HB2.out (by omega)
  have h3:=HR.out
  unfold n4
  rw [←h1,←h2]
  omega,_,rfl⟩
set_option maxRecDepth 8000 in
set_option maxHeartbeats 2000000 in
theorem rtw_bad (s:ByteArray) (n:Nat) (w:World) (hs:s.size≤1073741824) (h:twB s.data.toList=false) :
  Calls Tryz.prog 44 #[.string s,.int .i64 (n:Int)] w fun e w'=>e=.returned (.tuple #[.slice none 0 0,.bool false])∧∃m,w'=w.drewN m:=by
 have hs':(s.size:Int)≤1073741824:=by omega
 have hT:¬(16≤s.data.toList.length∧s.data.toList.take 4=[0,12,0,0]∧n4 s.data.toList 12≤4096∧n4 s.data.toList 4=16+12 * n4 s.data.toList 12∧16+12 * n4 s.data.toList 12≤s.data.toList.length):=fun hh=>by rw [twB_t.2 hh] at h;cases h
 rw [←Lib.size_eq] at hT
 clear h
 have CZ:=hide (fun w=>ru4_z s 12 12 w rfl hs (by omega))
 by_cases h1:s.size < 16
 ·have h1':(s.size:Int) < 16:=by omega
  clear hT
  go_enter Tryz.func44,Tryz.ntmps44
  go_wp2_with fail
  refine (CZ.out _).mono ?_
  rintro e w1 ⟨y,rfl,y1,_,k1,hw⟩
  subst hw
  go_wp2_with fail
  go_ret2
  exact ⟨rfl,_,rfl⟩
 have h1':¬(s.size:Int) < 16:=by omega
 have h1b:(4:Int)≤(s.size:Int):=by omega
 have hq:=head_eq s 4 [0,12,0,0]
 by_cases h2:s.data.toList.take 4=[0,12,0,0]
 case neg=>
  rw [decide_eq_false h2] at hq
  clear hT h2
  go_enter Tryz.func44,Tryz.ntmps44
  go_wp2_with fail
  refine (CZ.out _).mono ?_
  rintro e w1 ⟨y,rfl,y1,_,k1,hw⟩
  subst hw
  go_wp2_with fail
  go_ret2
  exact ⟨rfl,_,rfl⟩
 rw [decide_eq_true h2] at hq
 have C12:=hide (fun w=>ru4_any s 12 12 w rfl (by omega) hs)
 have C4:=hide (fun w=>ru4_any s 4 4 w rfl (by omega) hs)
 have HT:Hid (¬(n4 s.data.toList 12≤4096∧n4 s.data.toList 4=16+12 * n4 s.data.toList 12∧16+12 * n4 s.data.toList 12≤s.size)):=hide (fun hh=>hT ⟨by omega,h2,hh⟩)
 have b4:=n4_lt s.data.toList 4
 have b12:=n4_lt s.data.toList 12
 obtain ⟨M,hM⟩:∃M:Int,((n4 s.data.toList 12:Nat):Int)=M:=⟨_,rfl⟩
 obtain ⟨Z,hZ⟩:∃Z:Int,((n4 s.data.toList 4:Nat):Int)=Z:=⟨_,rfl⟩
 rw [hM] at C12
 rw [hZ] at C4
 have m0:0≤M:=by omega
 have m1:M≤4294967295:=by omega
 have HT':Hid (¬(M≤4096∧Z=16+12 * M∧16+12 * M≤(s.size:Int))):=hide (fun hh=>HT.out (by omega))
 clear hT HT b4 b12 hM hZ h2 CZ
 by_cases h3:4096 < M
 ·clear HT'
  go_enter Tryz.func44,Tryz.ntmps44
  go_wp2_with fail
  refine (C12.out _).mono ?_
  rintro e w1 ⟨rfl,k1,hw⟩
  subst hw
  go_wp2_with fail
  go_ret2
  exact ⟨rfl,_,rfl⟩
 have h3':decide (4096 < M)=false:=by simp;omega
 have h3b:M≤4096:=by omega
 by_cases h4:Z=16+12 * M
 case neg=>
  have h4':(Z != 16+12 * M)=true:=by simpa using h4
  clear HT' h4 h3
  go_enter Tryz.func44,Tryz.ntmps44
  go_wp2_with fail
  refine (C12.out _).mono ?_
  rintro e w1 ⟨rfl,k1,hw⟩
  subst hw
  go_wp2_with fail
  refine (C4.out _).mono ?_
  rintro e w1 ⟨rfl,k2,hw⟩
  subst hw
  go_wp2_with fail
  go_ret2
  exact ⟨rfl,_,rfl⟩
 have h4':(Z != 16+12 * M)=false:=by simpa using h4
 have h5:(s.size:Int) < 16+12 * M:=by have:=HT'.out;omega
 clear HT' h4 h3
 go_enter Tryz.func44,Tryz.ntmps44
 go_wp2_with fail
 refine (C12.out _).mono ?_
 rintro e w1 ⟨rfl,k1,hw⟩
 subst hw
 go_wp2_with fail
 refine (C4.out _).mono ?_
 rintro e w1 ⟨rfl,k2,hw⟩
 subst hw
 go_wp2_with fail
 go_ret2
 exact ⟨rfl,_,rfl⟩
set_option maxRecDepth 8000 in
set_option maxHeartbeats 8000000 in
theorem rtw_ok (s:ByteArray) (n:Nat) (w:World) (hs:s.size≤1073741824) (h:twB s.data.toList=true) (hn:n≤4096) :
  Calls Tryz.prog 44 #[.string s,.int .i64 (n:Int)] w (AdR w w.heap.size (twV s.data.toList n)):=by
 have hs':(s.size:Int)≤1073741824:=by omega
 have hn':(n:Int)≤4096:=by omega
 have hT:=twB_t.1 h
 rw [←Lib.size_eq] at hT
 obtain ⟨h1,h2,h3,h4,h5⟩:=hT
 have h1':¬(s.size:Int) < 16:=by omega
 have h1b:(4:Int)≤(s.size:Int):=by omega
 have hq:=head_eq s 4 [0,12,0,0]
 rw [decide_eq_true h2] at hq
 have CF:=hide (fun (j:Nat) (z:Int) (w:World) (hz:z=(j:Int)) (h:j+4≤s.size)=>ru4_any s j z w hz h hs)
 have C12:=hide (fun w=>CF.out 12 12 w rfl (by omega))
 have C4:=hide (fun w=>CF.out 4 4 w rfl (by omega))
 have HVB:=hide (fun (i:Nat)=>@twV_bad s.data.toList n i)
 have HVF:=hide (fun (i:Nat)=>@twV_full s.data.toList n i)
 have HVO:=hide (@twV_ok s.data.toList n h)
 have HLL:=hide (n4_lt s.data.toList)
 obtain ⟨M,hM⟩:∃M:Nat,n4 s.data.toList 12=M:=⟨_,rfl⟩
 rw [hM] at C12 h3 h4 h5 HVB HVF HVO
 obtain ⟨Z,hZ⟩:∃Z:Int,((n4 s.data.toList 4:Nat):Int)=Z:=⟨_,rfl⟩
 rw [hZ] at C4
 have h3':¬(4096:Int) < (M:Int):=by omega
 have h3b:(M:Int)≤4096:=by omega
 have h3c:(0:Int)≤(M:Int):=by omega
 have h4':(Z != 16+12 * (M:Int))=false:=by simp;omega
 have h5':¬(s.size:Int) < 16+12 * (M:Int):=by omega
 have H5:=hide h5
 clear h h1 h2 h3 h4 h5 hM hZ
 go_enter Tryz.func44,Tryz.ntmps44
 go_wp2_with fail
 refine (C12.out _).mono ?_
 rintro e w1 ⟨rfl,k1,hw⟩
 subst hw
 go_wp2_with fail
 refine (C4.out _).mono ?_
 rintro e w1 ⟨rfl,k2,hw⟩
 subst hw
 go_wp2_with fail
 go_loopw [7,8] (fun vl vi wr=>∃(k:Nat),vi=.int .i64 k∧vl=.int .i64 ((lea s.data.toList k:Nat) - 1:Int)∧Hid (k≤M∧(∀j,j < k→okG s.data.toList n j=true)∧∃m,wr=w.drewN m)) (fun _ vi _=>M - (intOf vi).toNat)
 case atStart=>exact ⟨0,rfl,rfl,hide ⟨by omega,fun j hj=>by omega,_,rfl⟩⟩
 case round=>
  obtain ⟨k,rfl,rfl,HV⟩:=hrel
  obtain ⟨hk,hok,m,hwm⟩:=HV.out
  subst hwm
  have hk0:(0:Int)≤(k:Int):=by omega
  have HOK:=hide hok
  clear HV hok
  by_cases hlt:k < M
  case neg=>
   have hlt':¬(k:Int) < (M:Int):=by omega
   have EV:Hid (twV s.data.toList n=accG s.data.toList M):=hide (by
    obtain rfl:k=M:=by omega
    exact HVO.out HOK.out)
   obtain ⟨le,hle⟩:∃le:Int,((lea s.data.toList k:Nat):Int) - 1=le:=⟨_,rfl⟩
   rw [hle]
   have HOM:Hid (∀j,j < M→okG s.data.toList n j=true):=hide (fun j hj=>HOK.out j (by omega))
   clear hle HOK
   go_wp2_with fail
   clear hlt hlt' hk hk0
   go_loopw [12,13,14] (fun vo vk vi wr=>∃(q:Nat) (cur:List Ch),vi=.int .i64 q∧vk=.bool true∧Hid (q≤M∧accG s.data.toList q=some cur∧BD cur∧CRow wr w.heap.size vo cur∧Below w.heap.size w wr)) (fun _ _ vi _=>M - (intOf vi).toNat)
   case atStart=>exact ⟨0,[],rfl,rfl,hide ⟨by omega,rfl,BD.nil,CRow.nil _ _,below_drewN (Below.refl _ _) _⟩⟩
   case round=>
    obtain ⟨q,cur,rfl,rfl,HV⟩:=hrel
    obtain ⟨hq1,hac,hbd,hcr,hbw⟩:=HV.out
    have hq0:(0:Int)≤(q:Int):=by omega
    have HAC:=hide hac
    have HBD:=hide hbd
    have HCR:=hide hcr
    have HBW:=hide hbw
    clear HV hac hbd hcr hbw
    by_cases hlt:q < M
    case neg=>
     have hlt':¬(q:Int) < (M:Int):=by omega
     have E:Hid (twV s.data.toList n=some cur):=hide (by
      obtain rfl:q=M:=by omega
      rw [EV.out,HAC.out])
     go_wp2_with fail
     go_ret2
     rw [E.out]
     exact ⟨_,rfl,HCR.out,HBW.out⟩
    have hlt':(q:Int) < (M:Int):=by omega
    have C1:=hide (fun z w (hz:z=((16+12 * q:Nat):Int))=>CF.out (16+12 * q) z w hz (by have:=H5.out;omega))
    have C2:=hide (fun z w (hz:z=((20+12 * q:Nat):Int))=>CF.out (20+12 * q) z w hz (by have:=H5.out;omega))
    have C3:=hide (fun z w (hz:z=((24+12 * q:Nat):Int))=>CF.out (24+12 * q) z w hz (by have:=H5.out;omega))
    have EOK:okG s.data.toList n q=decide (lea s.data.toList q≤n4 s.data.toList (16+12 * q)∧n4 s.data.toList (16+12 * q)≤n4 s.data.toList (20+12 * q)∧n4 s.data.toList (20+12 * q)≤1114111∧n4 s.data.toList (24+12 * q)+(n4 s.data.toList (20+12 * q) - n4 s.data.toList (16+12 * q)) < n):=rfl
    rw [HOM.out q hlt] at EOK
    have EOK2:=of_decide_eq_true EOK.symm
    have EAC:=hide (show accG s.data.toList (q+1)=grpF (n4 s.data.toList (16+12 * q)) (n4 s.data.toList (24+12 * q)) cur (n4 s.data.toList (20+12 * q) - n4 s.data.toList (16+12 * q)+1) by rw [accG,HAC.out];rfl)
    clear EOK
    generalize n4 s.data.toList (16+12 * q)=A at *
    generalize n4 s.data.toList (20+12 * q)=B at *
    generalize n4 s.data.toList (24+12 * q)=G at *
    obtain ⟨_,o2,o3,o4⟩:=EOK2
    have a0:(0:Int)≤(A:Int):=by omega
    have a1:(A:Int)≤1114111:=by omega
    have b0:(0:Int)≤(B:Int):=by omega
    have b1:(B:Int)≤1114111:=by omega
    have g0:(0:Int)≤(G:Int):=by omega
    have g1:(G:Int)≤4096:=by omega
    obtain ⟨cnt,hcnt⟩:∃cnt,B - A+1=cnt:=⟨_,rfl⟩
    rw [hcnt] at EAC
    have HCN:=hide hcnt
    have HO:=hide (And.intro o2 (And.intro o3 o4))
    clear hcnt o2 o3 o4
    go_wp2_with fail
    refine (C1.out _ _ (by omega)).mono ?_
    rintro e w1 ⟨rfl,m1,hw⟩
    subst hw
    go_wp2_with fail
    refine (C2.out _ _ (by omega)).mono ?_
    rintro e w1 ⟨rfl,m2,hw⟩
    subst hw
    go_wp2_with fail
    refine (C3.out _ _ (by omega)).mono ?_
    rintro e w1 ⟨rfl,m3,hw⟩
    subst hw
    have HB3:Hid (∀m,Below w.heap.size w (wr.drewN m)):=hide (fun m=>below_drewN HBW.out m)
    have HC3:Hid (∀m,CRow (wr.drewN m) w.heap.size u12 cur):=hide (fun m=>HCR.out)
    go_wp2_with fail
    go_loopw [12,13,18] (fun vo vk vc wr=>∃(j:Nat) (cu:List Ch),vc=.int .i64 ((A+j:Nat):Int)∧vk=.bool true∧Hid (j≤cnt∧grpF A G cur j=some cu∧BD cu∧CRow wr w.heap.size vo cu∧Below w.heap.size w wr)) (fun _ _ vc _=>A+cnt - (intOf vc).toNat)
    case atStart=>exact ⟨0,cur,rfl,rfl,hide ⟨by omega,rfl,HBD.out,HC3.out _,HB3.out _⟩⟩
    case round=>
     obtain ⟨j,cu,rfl,rfl,HV⟩:=hrel
     obtain ⟨hj,hgr,hbd,hcr,hbw⟩:=HV.out
     have HGR:=hide hgr
     have HBD2:=hide hbd
     have HCR2:=hide hcr
     have HBW2:=hide hbw
     clear HV hgr hbd hcr hbw HC3 HB3
     obtain ⟨c,hc⟩:∃c:Int,((A+j:Nat):Int)=c:=⟨_,rfl⟩
     rw [hc]
     have HC:=hide hc
     have q0:0≤c:=by omega
     have q1:c≤1114112:=by have:=HCN.out;have:=HO.out;omega
     by_cases hlt2:j < cnt
     case neg=>
      have hlt2':¬c≤(B:Int):=by have:=HCN.out;have:=HO.out;omega
      have EJ:Hid (accG s.data.toList (q+1)=some cu):=hide (by
       rw [EAC.out,←HGR.out]
       obtain rfl:j=cnt:=by omega
       rfl)
      clear hc
      go_wp2_with fail
      go_roundw
      case rel=>exact ⟨q+1,cu,by go_num,rfl,hide ⟨by omega,EJ.out,HBD2.out,HCR2.out,HBW2.out⟩⟩
      case measure=>simp [intOf];omega
     have hlt2':c≤(B:Int):=by have:=HCN.out;have:=HO.out;omega
     have q2:c≤1114111:=by omega
     have q3:(A:Int)≤c:=by omega
     obtain ⟨g2,hg2⟩:∃g2:Int,(G:Int)+c - (A:Int)=g2:=⟨_,rfl⟩
     have HG2:Hid (((G+j:Nat):Int)=g2):=hide (by omega)
     have r0:0≤g2:=by omega
     have r1:g2≤4096:=by have:=HCN.out;have:=HO.out;omega
     have EST:Hid (grpF A G cur (j+1)=stP cu c g2):=hide (by rw [grpF,HGR.out,←HC.out,←HG2.out];rfl)
     have CT:=hide (radd_any w.heap.size u12 c g2 cu wr HCR2.out HBW2.out.size HBD2.out r0 (by omega) q0 q2)
     cases hadd:stP cu c g2 with
     | none=>
      rw [hadd] at CT EST
      have EN:Hid (twV s.data.toList n=none):=hide (HVF.out (q+1) (by omega) (by rw [EAC.out];exact grpF_end EST.out (by omega)))
      clear hadd hc
      go_wp2_with fail
      refine CT.out.mono ?_
      rintro e w1 ⟨rfl,ht⟩
      have HT2:=hide (HBW2.out.trans ht)
      clear ht
      go_wp2_with fail
      go_ret2
      rw [EN.out]
      exact ⟨rfl,HT2.out⟩
     | some cs2=>
      have HBD3:=hide (HBD2.out.stP r0 (by omega) hadd)
      rw [hadd] at CT EST
      clear hadd hc
      go_wp2_with fail
      refine CT.out.mono ?_
      rintro e w1 ⟨v2,rfl,hc2,ht⟩
      have HCR3:=hide hc2
      have HT2:=hide (HBW2.out.trans ht)
      clear ht hc2
      have ENX:Hid (((A+(j+1):Nat):Int)=c+1):=hide (by have:=HC.out;omega)
      go_wp2_with fail
      go_roundw
      case rel=>exact ⟨j+1,cs2,by rw [ENX.out],rfl,hide ⟨by omega,EST.out,HBD3.out,HCR3.out,HT2.out⟩⟩
      case measure=>have:=HC.out;simp [intOf];omega
  have hlt':(k:Int) < (M:Int):=by omega
  have C1:=hide (fun z w (hz:z=((16+12 * k:Nat):Int))=>CF.out (16+12 * k) z w hz (by have:=H5.out;omega))
  have C2:=hide (fun z w (hz:z=((20+12 * k:Nat):Int))=>CF.out (20+12 * k) z w hz (by have:=H5.out;omega))
  have C3:=hide (fun z w (hz:z=((24+12 * k:Nat):Int))=>CF.out (24+12 * k) z w hz (by have:=H5.out;omega))
  have ba:=HLL.out (16+12 * k)
  have bb:=HLL.out (20+12 * k)
  have bg:=HLL.out (24+12 * k)
  have EOK:=hide (show okG s.data.toList n k=decide (lea s.data.toList k≤n4 s.data.toList (16+12 * k)∧n4 s.data.toList (16+12 * k)≤n4 s.data.toList (20+12 * k)∧n4 s.data.toList (20+12 * k)≤1114111∧n4 s.data.toList (24+12 * k)+(n4 s.data.toList (20+12 * k) - n4 s.data.toList (16+12 * k)) < n) from rfl)
  have ELE:=hide (show lea s.data.toList (k+1)=n4 s.data.toList (20+12 * k)+1 from rfl)
  generalize n4 s.data.toList (16+12 * k)=A at *
  generalize n4 s.data.toList (20+12 * k)=B at *
  generalize n4 s.data.toList (24+12 * k)=G at *
  generalize lea s.data.toList k=LE at *
  obtain ⟨a,hA⟩:∃a:Int,(A:Int)=a:=⟨_,rfl⟩
  obtain ⟨b,hB⟩:∃b:Int,(B:Int)=b:=⟨_,rfl⟩
  obtain ⟨g,hG⟩:∃g:Int,(G:Int)=g:=⟨_,rfl⟩
  obtain ⟨le,hLE⟩:∃le:Int,(LE:Int) - 1=le:=⟨_,rfl⟩
  rw [hA] at C1
  rw [hB] at C2
  rw [hG] at C3
  rw [hLE]
  have a0:0≤a:=by omega
  have a1:a≤4294967295:=by omega
  have b0:0≤b:=by omega
  have b1:b≤4294967295:=by omega
  have g0:0≤g:=by omega
  have g1:g≤4294967295:=by omega
  have HIN:=hide (And.intro hA (And.intro hB (And.intro hG hLE)))
  have ENO:Hid (¬(le < a∧a≤b∧b≤1114111∧g+b - a < (n:Int))→twV s.data.toList n=none):=hide (fun hh=>HVB.out k hlt (by rw [EOK.out];exact decide_eq_false (by omega)))
  have EYES:Hid ((le < a∧a≤b∧b≤1114111∧g+b - a < (n:Int))→okG s.data.toList n k=true):=hide (fun hh=>by rw [EOK.out];exact decide_eq_true (by omega))
  clear ba bb bg hA hB hG hLE EOK
  go_wp2_with fail
  refine (C1.out _ _ (by omega)).mono ?_
  rintro e w1 ⟨rfl,m1,hw⟩
  subst hw
  go_wp2_with fail
  refine (C2.out _ _ (by omega)).mono ?_
  rintro e w1 ⟨rfl,m2,hw⟩
  subst hw
  go_wp2_with fail
  refine (C3.out _ _ (by omega)).mono ?_
  rintro e w1 ⟨rfl,m3,hw⟩
  subst hw
  by_cases c2:b < a
  ·have E:=hide (ENO.out (by omega))
   clear EYES ENO
   go_wp2_with fail
   go_ret2
   rw [E.out]
   exact ⟨rfl,below_drewN (Below.refl _ _) _⟩
  have c2':decide (b < a)=false:=by simp;omega
  by_cases c1:a≤le
  ·have E:=hide (ENO.out (by omega))
   clear EYES ENO c2
   go_wp2_with fail
   go_ret2
   rw [E.out]
   exact ⟨rfl,below_drewN (Below.refl _ _) _⟩
  have c1':decide (a≤le)=false:=by simp;omega
  by_cases c3:1114111 < b
  ·have E:=hide (ENO.out (by omega))
   clear EYES ENO c1 c2
   go_wp2_with fail
   go_ret2
   rw [E.out]
   exact ⟨rfl,below_drewN (Below.refl _ _) _⟩
  have c3':decide (1114111 < b)=false:=by simp;omega
  by_cases c4:(n:Int)≤g+b - a
  ·have E:=hide (ENO.out (by omega))
   clear EYES ENO c1 c2 c3
   go_wp2_with fail
   go_ret2
   rw [E.out]
   exact ⟨rfl,below_drewN (Below.refl _ _) _⟩
  have c4':decide ((n:Int)≤g+b - a)=false:=by simp;omega
  have E:=hide (EYES.out (by omega))
  have EL2:Hid (((lea s.data.toList (k+1):Nat):Int) - 1=b):=hide (by rw [ELE.out];have:=HIN.out;omega)
  clear EYES ENO c1 c2 c3 c4
  go_wp2_with fail
  go_roundw
  case rel=>exact ⟨k+1,by go_num,by rw [EL2.out],hide ⟨by omega,fun i hi=>by
    rcases Nat.lt_or_ge i k with h' | h'
    ·exact HOK.out i h'
    ·obtain rfl:i=k:=by omega
     exact E.out,_,rfl⟩⟩
  case measure=>simp [intOf];omega
end Go.Proofs.YtpaadbnlhapdbaaGreatDoor.C11
